import builtins
import unittest

from lateclasses import errors
from lateclasses.errors import ClassError

ATTRIBUTES = {
    "InvalidName": ("given",),
    "InvalidMethod": ("given",),
    "InvalidClass": ("given",),
    "InvalidTable": ("given",),
    "NameTaken": ("given",),
    "UnknownLoader": ("given",),
    "UnknownClass": ("loader", "word"),
    "NameFixed": ("loader", "word"),
    "LimitExceeded": ("limit",),
    "Failing": ("failure",),
    "ParseError": ("line",),
    "InvalidValues": ("given",),
    "InvalidChoices": ("given",),
    "InvalidLimit": ("given",),
    "InvalidOperand": ("given",),
    "InvalidJournal": ("given",),
    "InvalidCommand": ("given",),
    "UnknownName": ("given",),
    "NotLoaded": ("given",),
}


def objects():
    """Objects that an error may be made from."""
    return [7, None, True, "book", ("shop", "book"), ["shop"], {"shop": ["book"]}, object(), ValueError("book"), int]


def each_error():
    """The name, the class and the attributes of each error."""
    return [(name, getattr(errors, name), attributes) for name, attributes in ATTRIBUTES.items()]


class TestKinds(unittest.TestCase):
    def test_there_are_nineteen_errors_and_no_other_class(self):
        classes = [name for name, value in vars(errors).items() if isinstance(value, type)]
        self.assertEqual(sorted(classes), sorted(["ClassError", *ATTRIBUTES]))
        self.assertEqual(len(ATTRIBUTES), 19)

    def test_the_base_is_below_exception_alone(self):
        self.assertEqual(ClassError.__bases__, (Exception,))

    def test_each_error_is_directly_below_the_base_alone(self):
        for name, error, _ in each_error():
            with self.subTest(name):
                self.assertEqual(error.__bases__, (ClassError,))
                self.assertEqual(error.__module__, "lateclasses.errors")

    def test_no_error_is_below_another_one(self):
        for name, error, _ in each_error():
            for other_name, other, _ in each_error():
                if name != other_name:
                    self.assertFalse(issubclass(error, other), (name, other_name))

    def test_no_error_is_below_another_exception_of_python(self):
        own = [value for value in vars(builtins).values()
               if isinstance(value, type) and issubclass(value, BaseException)]
        for name, error, _ in each_error():
            above = [value for value in own if issubclass(error, value)]
            self.assertEqual(sorted(value.__name__ for value in above), ["BaseException", "Exception"], name)

    def test_an_object_is_a_class_error_and_an_exception(self):
        for name, error, attributes in each_error():
            made = error(*attributes)
            self.assertIsInstance(made, ClassError, name)
            self.assertIsInstance(made, Exception, name)


class TestWhatIsStored(unittest.TestCase):
    def test_by_position(self):
        for name, error, attributes in each_error():
            for given in objects():
                with self.subTest(name=name, given=given):
                    made = error(*[given for _ in attributes])
                    for attribute in attributes:
                        self.assertIs(getattr(made, attribute), given)

    def test_by_name(self):
        for name, error, attributes in each_error():
            for given in objects():
                with self.subTest(name=name, given=given):
                    made = error(**{attribute: given for attribute in attributes})
                    for attribute in attributes:
                        self.assertIs(getattr(made, attribute), given)

    def test_two_objects_are_stored_in_their_order(self):
        for name in ("UnknownClass", "NameFixed"):
            error = getattr(errors, name)
            for made in (error("shop", ["book"]), error("shop", word=["book"]), error(word=["book"], loader="shop")):
                self.assertEqual((made.loader, made.word), ("shop", ["book"]), name)

    def test_each_object_has_its_own(self):
        for name, error, attributes in each_error():
            one, other = error(*[1 for _ in attributes]), error(*[2 for _ in attributes])
            self.assertEqual([getattr(one, attribute) for attribute in attributes], [1] * len(attributes), name)
            self.assertEqual([getattr(other, attribute) for attribute in attributes], [2] * len(attributes), name)

    def test_nothing_else_is_stored(self):
        for name, error, attributes in each_error():
            self.assertEqual(tuple(vars(error(*attributes))), attributes, name)

    def test_what_is_stored_is_not_changed(self):
        given = {"shop": ["book", ("item",)]}
        for name, error, attributes in each_error():
            error(*[given for _ in attributes])
            self.assertEqual(given, {"shop": ["book", ("item",)]}, name)


class TestArguments(unittest.TestCase):
    def test_wrong_arguments(self):
        for name, error, attributes in each_error():
            with self.subTest(name):
                with self.assertRaises(TypeError):
                    error()
                with self.assertRaises(TypeError):
                    error(1, 2, 3)
                with self.assertRaises(TypeError):
                    error(other=1)

    def test_raised_and_caught_by_the_base(self):
        for name, error, attributes in each_error():
            with self.assertRaises(ClassError) as caught:
                raise error(*attributes)
            self.assertIs(caught.exception.__class__, error, name)


if __name__ == "__main__":
    unittest.main()
