import unittest

from lateclasses.codes import Method, is_instruction
from lateclasses.errors import ClassError, InvalidMethod
from tests.samples import GOOD_NAMES, GOOD_TYPES, AlwaysEqual, NeverAsked, Parts, Poser, no_names, no_texts, no_types

# Each instruction as the document writes it, and what each item behind its word is:
# r a register, n a name, T a type, i a digit, t an index, S the types, A the arguments.
SAMPLES = [
    (("new", 1, "book"), "rn"),
    (("array", 1, "book", 2), "rni"),
    (("null", 1), "r"),
    (("move", 1, 2), "rr"),
    (("get", 1, 2, "book", "left", "item[]"), "rrnnT"),
    (("put", 1, "book", "left", "item", 2), "rnnTr"),
    (("call", 1, 2, "book", "cost", (), "item", ()), "rrnnSTA"),
    (("call", 1, 2, "book", "cost", ("item", "pen[]"), "item", (3, 3)), "rrnnSTA"),
    (("ask", 1, 2, "sold", "cost", (), "item[]", ()), "rrnnSTA"),
    (("ask", 1, 2, "sold", "cost", ("item",), "item", (3,)), "rrnnSTA"),
    (("cast", 1, 2, "book"), "rrn"),
    (("load", 1, 2, 3), "rri"),
    (("store", 1, 3, 2), "rir"),
    (("jump", 4), "t"),
    (("ifnull", 1, 4), "rt"),
    (("ifis", 1, "book", 4), "rnt"),
    (("choose", 4), "t"),
    (("tell", 1), "r"),
    (("return", 1), "r"),
]
WORDS = {sample[0] for sample, _ in SAMPLES}


def no_numbers(low, high):
    """Objects that are no integers from low to high."""
    kinds = [value for value in no_texts() if type(value) is not int]
    return kinds + [low - 1, high + 1, low - 100, high + 100, 10 ** 30, "", "1", "book", (1,), [1]]


def wrong_types():
    """Objects that are no tuple of two types."""
    wrong = [value for value in no_types() if type(value) is not tuple]
    wrong += [(value, "item") for value in no_types()] + [("item", value) for value in no_types()]
    return wrong + [("item",), ("item",) * 3, ["item", "pen[]"], {"item": "pen"}, "ab", ("item", ("pen",))]


def wrong_args():
    """Objects that are no tuple of two registers."""
    wrong = [value for value in no_names() if type(value) is not tuple]
    wrong += [(value, 1) for value in no_numbers(0, 9)] + [(1, value) for value in no_numbers(0, 9)]
    return wrong + [(), (1,), (1, 1, 1), [1, 1], {1: 1, 2: 2}, "11", 1, (1, (1,)), range(2)]


def wrong_items(kind):
    """Objects that must not stand where an item of this kind stands."""
    if kind in "ri":
        return no_numbers(0, 9)
    if kind == "t":
        return no_numbers(0, 39)
    if kind == "n":
        return no_names()
    if kind == "T":
        return no_types()
    return wrong_types() if kind == "S" else wrong_args()


def good_items(kind):
    """Objects that may stand where an item of this kind stands."""
    if kind in "ri":
        return range(10)
    if kind == "t":
        return range(40)
    if kind == "n":
        return GOOD_NAMES
    if kind == "T":
        return GOOD_TYPES
    return ()


def with_item(value, at, item):
    """The tuple with another item at a place."""
    return value[:at] + (item,) + value[at + 1:]


class TestInstructions(unittest.TestCase):
    def test_there_are_seventeen_kinds(self):
        self.assertEqual(len(WORDS), 17)

    def test_each_kind(self):
        for sample, _ in SAMPLES:
            self.assertIs(is_instruction(sample), True, sample)

    def test_each_item_with_all_that_may_stand_there(self):
        for sample, kinds in SAMPLES:
            for at, kind in enumerate(kinds, start=1):
                for item in good_items(kind):
                    value = with_item(sample, at, item)
                    self.assertIs(is_instruction(value), True, value)

    def test_each_item_with_what_must_not_stand_there(self):
        for sample, kinds in SAMPLES:
            for at, kind in enumerate(kinds, start=1):
                if kind in "SA" and sample[5] != ("item", "pen[]"):
                    continue
                for item in wrong_items(kind):
                    self.assertIs(is_instruction(with_item(sample, at, item)), False, (sample, at))

    def test_each_item_left_out(self):
        for sample, _ in SAMPLES:
            for at in range(len(sample)):
                self.assertIs(is_instruction(sample[:at] + sample[at + 1:]), False, (sample, at))

    def test_an_item_put_in(self):
        for sample, _ in SAMPLES:
            for at in range(len(sample) + 1):
                for item in (0, 1, 9, "book", "item[]", "new", "call", None, True, (), ("item",), (1,), []):
                    value = sample[:at] + (item,) + sample[at:]
                    self.assertIs(is_instruction(value), False, value)

    def test_the_same_as_a_list(self):
        for sample, _ in SAMPLES:
            self.assertIs(is_instruction(list(sample)), False, sample)
            self.assertIs(is_instruction((sample,)), False, sample)
            self.assertIs(is_instruction([sample]), False, sample)

    def test_other_words(self):
        words = no_texts() + ["", "New", "NEW", "new ", " new", "goto", "newx", "ne", "book", "new\n", "if", "args"]
        for sample, _ in SAMPLES:
            for word in words:
                self.assertIs(is_instruction(with_item(sample, 0, word)), False, sample)

    def test_the_word_of_another_kind(self):
        # The numbers in the samples are registers, digits and indices at once.
        alike = {sample[0]: kinds.replace("i", "r").replace("t", "r") for sample, kinds in SAMPLES}
        for sample, _ in SAMPLES:
            for word in WORDS:
                value = with_item(sample, 0, word)
                self.assertIs(is_instruction(value), alike[word] == alike[sample[0]], value)

    def test_other_objects(self):
        for value in no_names():
            self.assertIs(is_instruction(value), False)
            self.assertIs(is_instruction((value,)), False)
        self.assertIs(is_instruction(("new",)), False)
        self.assertIs(is_instruction("new"), False)

    def test_by_keyword(self):
        self.assertIs(is_instruction(value=("null", 1)), True)
        self.assertIs(is_instruction(value=("null", True)), False)


class TestTypesAndArguments(unittest.TestCase):
    def call(self, word, many_types, many_args):
        return (word, 0, 1, "book", "cost", ("item",) * many_types, "item", (2,) * many_args)

    def test_as_many_arguments_as_types_up_to_four(self):
        for word in ("call", "ask"):
            for many_types in range(8):
                for many_args in range(8):
                    value = self.call(word, many_types, many_args)
                    self.assertIs(is_instruction(value), many_types == many_args <= 4, value)

    def test_each_type_and_each_argument(self):
        for at in range(4):
            for good in GOOD_TYPES:
                value = with_item(self.call("call", 4, 4), 5, with_item(("item",) * 4, at, good))
                self.assertIs(is_instruction(value), True, value)
            for good in range(10):
                value = with_item(self.call("ask", 4, 4), 7, with_item((1,) * 4, at, good))
                self.assertIs(is_instruction(value), True, value)
            for wrong in no_types():
                value = with_item(self.call("call", 4, 4), 5, with_item(("item",) * 4, at, wrong))
                self.assertIs(is_instruction(value), False, at)
            for wrong in no_numbers(0, 9):
                value = with_item(self.call("ask", 4, 4), 7, with_item((1,) * 4, at, wrong))
                self.assertIs(is_instruction(value), False, at)

    def test_a_list_in_place_of_a_tuple(self):
        for word in ("call", "ask"):
            value = self.call(word, 2, 2)
            self.assertIs(is_instruction(with_item(value, 5, ["item", "item"])), False)
            self.assertIs(is_instruction(with_item(value, 7, [2, 2])), False)


RETURN = ("return", 0)


def made(name="pick", params=(), result="item", size=10, code=(RETURN,)):
    return Method(name, params, result, size, code)


def refused(**parts):
    """What the error stores that Method raises with these parts, and the parts themselves."""
    try:
        made(**parts)
    except InvalidMethod as error:
        return error.given
    raise AssertionError(f"accepted: {parts}")


class TestMethodParts(unittest.TestCase):
    def test_the_parts_are_kept(self):
        code = [("choose", 3), ("new", 1, "book"), RETURN, ("new", 1, "pen"), RETURN]
        for keep in (list, tuple):
            method = Method("pick", keep(["item", "pen[]"]), "book[]", 5, keep(code))
            self.assertEqual(method.name, "pick")
            self.assertEqual(method.params, ("item", "pen[]"))
            self.assertEqual(method.result, "book[]")
            self.assertEqual(method.size, 5)
            self.assertEqual(method.code, tuple(code))
            self.assertIs(type(method.params), tuple)
            self.assertIs(type(method.code), tuple)

    def test_by_name(self):
        method = Method(code=[RETURN], size=2, result="top", params=["item"], name="go")
        self.assertEqual(method, Method("go", ("item",), "top", 2, (RETURN,)))
        self.assertEqual((method.name, method.params, method.result, method.size, method.code),
                         ("go", ("item",), "top", 2, (RETURN,)))

    def test_lists_that_are_changed_later(self):
        params, code = ["item"], [RETURN]
        method = made(params=params, code=code)
        params.append("pen")
        params[0] = "book"
        code.append(("null", 1))
        code[0] = ("tell", 0)
        self.assertEqual((method.params, method.code), (("item",), (RETURN,)))

    def test_arguments_are_not_changed(self):
        params, code = ["item", "pen"], [("null", 1), RETURN]
        made(params=params, code=code)
        self.assertEqual((params, code), (["item", "pen"], [("null", 1), RETURN]))

    def test_all_arguments_are_needed(self):
        with self.assertRaises(TypeError):
            Method("pick", (), "item", 1)


class TestMethodEquality(unittest.TestCase):
    def test_equal_parts(self):
        one = Method("pick", ["item"], "item", 3, [("null", 1), RETURN])
        other = Method("pick", ("item",), "item", 3, (("null", 1), RETURN))
        self.assertTrue(one == other)
        self.assertFalse(one != other)

    def test_each_part_matters(self):
        one = made()
        for parts in ({"name": "pack"}, {"params": ("item",)}, {"result": "item[]"}, {"size": 9},
                      {"code": (("tell", 0),)}, {"code": (RETURN, RETURN)}):
            self.assertFalse(one == made(**parts), parts)
            self.assertTrue(one != made(**parts), parts)
            self.assertEqual(made(**parts), made(**parts))

    def test_the_order_of_the_parts_matters(self):
        self.assertNotEqual(made(params=("item", "pen")), made(params=("pen", "item")))
        self.assertNotEqual(made(code=(RETURN, ("tell", 0))), made(code=(("tell", 0), RETURN)))

    def test_objects_of_other_classes(self):
        parts = {"name": "pick", "params": (), "result": "item", "size": 10, "code": (RETURN,)}
        same = Parts(**parts, _name="pick", _params=(), _result="item", _size=10, _code=(RETURN,))
        for other in no_texts() + ["pick", tuple(parts.values()), parts, same, Method, NeverAsked()]:
            self.assertIs(made() == other, False)
            self.assertIs(made() != other, True)
        self.assertFalse(made() == AlwaysEqual())


class TestWrongArguments(unittest.TestCase):
    def check(self, part, values):
        for value in values:
            with self.subTest(part=part):
                self.assertIs(refused(**{part: value}), value)

    def test_the_error_is_one_of_the_package(self):
        with self.assertRaises(ClassError):
            made(name="")

    def test_name(self):
        self.check("name", no_names())
        for name in GOOD_NAMES:
            self.assertEqual(made(name=name).name, name)

    def test_params(self):
        wrong = [value for value in no_types() if type(value) not in (list, tuple)]
        wrong += ["item", "", "item[]", {"item": 1}, {}, ("item",) * 5, ["item"] * 5, ("item",) * 5000, (("item",),)]
        wrong += [(value,) for value in no_types()] + [["item", value] for value in no_types()]
        self.check("params", wrong)

    def test_up_to_four_params(self):
        for many in range(5):
            for params in (("item",) * many, ["item"] * many):
                self.assertEqual(made(params=params).params, ("item",) * many)
        for kind in GOOD_TYPES:
            self.assertEqual(made(params=[kind, kind]).params, (kind, kind))

    def test_result(self):
        self.check("result", no_types())
        for result in GOOD_TYPES:
            self.assertEqual(made(result=result).result, result)

    def test_size(self):
        self.check("size", no_numbers(1, 10))

    def test_size_and_the_number_of_params(self):
        for many in range(5):
            for size in range(-2, 14):
                params = ("item",) * many
                if many + 1 <= size <= 10:
                    self.assertEqual(made(params=params, size=size).size, size)
                else:
                    self.assertIs(refused(params=params, size=size), size)

    def test_a_bool_is_no_size(self):
        self.assertIs(refused(size=True), True)
        self.assertIs(refused(size=False), False)

    def test_code_of_other_kinds(self):
        wrong = [value for value in no_names() if type(value) not in (list, tuple)]
        wrong += [RETURN, list(RETURN), {RETURN: 1}, {}, iter([RETURN]), "return"]
        wrong += [[value] for value in no_names()] + [(RETURN, value) for value in no_names()]
        wrong += [[list(RETURN)], (list(RETURN),), [[RETURN]], [("return", True)], [("jump", False)]]
        self.check("code", wrong)

    def test_lengths_of_codes(self):
        self.check("code", [(), [], (RETURN,) * 41, [RETURN] * 41, [RETURN] * 5000])
        for many in (1, 2, 39, 40):
            for code in ((RETURN,) * many, [RETURN] * many):
                self.assertEqual(made(code=code).code, (RETURN,) * many)

    def test_a_wrong_instruction_at_each_place(self):
        for at in range(40):
            code = [RETURN] * 40
            code[at] = ("return", 10)
            self.assertIs(refused(code=code), code)


class TestCodeOfThisMethod(unittest.TestCase):
    def test_registers_are_less_than_the_size(self):
        for sample, kinds in SAMPLES:
            for at, kind in enumerate(kinds, start=1):
                if kind == "r":
                    for register in range(4, 10):
                        code = [with_item(sample, at, register)] + [RETURN] * 4
                        self.assertEqual(made(size=register + 1, code=code).code, tuple(code))
                        self.assertIs(refused(size=register, code=code), code)

    def test_arguments_are_less_than_the_size(self):
        for word in ("call", "ask"):
            for at in range(4):
                for register in range(1, 10):
                    args = with_item((0, 0, 0, 0), at, register)
                    code = [(word, 0, 0, "book", "cost", ("item",) * 4, "item", args)]
                    self.assertEqual(made(size=register + 1, code=code).code, tuple(code))
                    self.assertIs(refused(size=register, code=code), code)

    def test_indices_are_those_of_instructions(self):
        for sample, kinds in SAMPLES:
            if "t" in kinds:
                at = 1 + kinds.index("t")
                for index in range(40):
                    code = [with_item(sample, at, index)] + [RETURN] * index
                    self.assertEqual(made(code=code).code, tuple(code))
                    if index > 0:
                        short = code[:-1]
                        self.assertIs(refused(code=short), short)

    def test_digits_are_neither(self):
        code = [("array", 0, "book", 9), ("load", 0, 0, 9), ("store", 0, 9, 0)]
        self.assertEqual(made(size=1, code=code).code, tuple(code))


class TestFirstWrongArgument(unittest.TestCase):
    def test_several_wrong_at_once(self):
        wrong = {"name": "Pick", "params": ("item[][]",), "result": None, "size": 11, "code": [("jump", 7)]}
        parts = list(wrong)
        for chosen in range(1, 32):
            picked = [part for at, part in enumerate(parts) if chosen >> at & 1]
            self.assertIs(refused(**{part: wrong[part] for part in picked}), wrong[picked[0]], picked)

    def test_all_of_the_same_wrong_kind(self):
        given = [[] for _ in range(5)]
        with self.assertRaises(InvalidMethod) as caught:
            Method(*given)
        self.assertIs(caught.exception.given, given[0])
        with self.assertRaises(InvalidMethod) as caught:
            Method("pick", *given[1:])
        self.assertIs(caught.exception.given, given[2])

    def test_the_size_is_told_before_the_code(self):
        self.assertEqual(refused(params=["item"], size=1, code=[("return", 5)]), 1)


if __name__ == "__main__":
    unittest.main()
