import string
import unittest

from lateclasses.words import TOP, element_of, is_name, is_type
from tests.samples import GOOD_NAMES, GOOD_TYPES, no_names, no_types


class TestTop(unittest.TestCase):
    def test_the_identity_of_top(self):
        self.assertEqual(TOP, ("", "top"))
        self.assertIs(type(TOP), tuple)


class TestNames(unittest.TestCase):
    def test_names(self):
        for name in GOOD_NAMES:
            self.assertIs(is_name(name), True, name)

    def test_every_length_from_one_to_eight(self):
        for length in range(12):
            self.assertIs(is_name("q" * length), 1 <= length <= 8, length)

    def test_each_character_alone_and_at_each_place(self):
        for code in range(128):
            character = chr(code)
            right = character in string.ascii_lowercase
            self.assertIs(is_name(character), right, character)
            for at in range(8):
                text = "abcdefgh"[:at] + character + "abcdefgh"[at + 1:]
                self.assertIs(is_name(text), right, text)

    def test_other_objects(self):
        for value in no_names():
            self.assertIs(is_name(value), False)

    def test_by_keyword(self):
        self.assertIs(is_name(value="book"), True)
        self.assertIs(is_name(value=True), False)


class TestTypes(unittest.TestCase):
    def test_types(self):
        for value in GOOD_TYPES:
            self.assertIs(is_type(value), True, value)

    def test_every_length(self):
        for length in range(12):
            self.assertIs(is_type("q" * length), 1 <= length <= 8, length)
            self.assertIs(is_type("q" * length + "[]"), 1 <= length <= 8, length)

    def test_other_objects(self):
        for value in no_types():
            self.assertIs(is_type(value), False)

    def test_an_array_of_what_is_no_name(self):
        for value in no_names():
            if type(value) is str:
                self.assertIs(is_type(value + "[]"), False, value[:20])

    def test_by_keyword(self):
        self.assertIs(is_type(value="book[]"), True)
        self.assertIs(is_type(value=True), False)


class TestElements(unittest.TestCase):
    def test_of_an_array(self):
        for name in GOOD_NAMES:
            self.assertEqual(element_of(name + "[]"), name)

    def test_of_a_name(self):
        for name in GOOD_NAMES:
            self.assertIsNone(element_of(name))

    def test_by_keyword(self):
        self.assertEqual(element_of(value="book[]"), "book")
        self.assertIsNone(element_of(value="book"))


if __name__ == "__main__":
    unittest.main()
