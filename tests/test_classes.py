import unittest

from lateclasses.classes import ClassText
from lateclasses.codes import Method
from lateclasses.errors import ClassError, InvalidClass
from tests.samples import GOOD_NAMES, GOOD_TYPES, AlwaysEqual, Parts, no_names, no_texts, no_types

NINE = ("a", "b", "c", "d", "e", "f", "g", "h", "i")
PARTS = ("name", "above", "marks", "fields", "methods")


def method(name, result="item"):
    return Method(name, (), result, 1, [("return", 0)])


def made(name="book", **parts):
    return ClassText(name, **parts)


def refused(**parts):
    """What the error stores that ClassText raises with these parts."""
    try:
        made(**parts)
    except InvalidClass as error:
        return error.given
    raise AssertionError(f"accepted: {parts}")


def parts_of(text):
    return tuple(getattr(text, part) for part in PARTS)


class TestParts(unittest.TestCase):
    def test_lists_and_tuples(self):
        fields = [("left", "item"), ("right", "item[]")]
        methods = [method("go"), method("pick")]
        for keep in (list, tuple):
            text = ClassText("book", above="item", marks=keep(["sold", "lent"]), fields=keep(fields),
                             methods=keep(methods))
            self.assertEqual(parts_of(text), ("book", "item", ("sold", "lent"), tuple(fields), tuple(methods)))
            for part in (text.marks, text.fields, text.methods):
                self.assertIs(type(part), tuple)

    def test_all_left_out(self):
        self.assertEqual(parts_of(ClassText("book")), ("book", "top", (), (), ()))

    def test_each_one_left_out(self):
        given = {"above": "item", "marks": ("sold",), "fields": (("left", "item"),), "methods": (method("go"),)}
        left = {"above": "top", "marks": (), "fields": (), "methods": ()}
        for part in given:
            text = ClassText("book", **{other: given[other] for other in given if other != part})
            expected = {"name": "book", **given, part: left[part]}
            self.assertEqual(parts_of(text), tuple(expected[other] for other in PARTS))

    def test_the_name_by_name(self):
        self.assertEqual(parts_of(ClassText(above="item", name="book")), ("book", "item", (), (), ()))

    def test_the_others_by_name_alone(self):
        for given in (("item",), ("item", ()), ("item", (), ()), ("item", (), (), ())):
            with self.assertRaises(TypeError):
                ClassText("book", *given)
        with self.assertRaises(TypeError):
            ClassText()

    def test_lists_that_are_changed_later(self):
        marks, fields, methods = ["sold"], [("left", "item")], [method("go")]
        text = made(marks=marks, fields=fields, methods=methods)
        marks.append("lent")
        fields[0] = ("right", "item")
        methods.clear()
        self.assertEqual(parts_of(text), ("book", "top", ("sold",), (("left", "item"),), (method("go"),)))
        self.assertEqual((text.field("left"), text.field("right"), text.method("go")), ("item", None, method("go")))

    def test_arguments_are_not_changed(self):
        marks, fields, methods = ["sold", "lent"], [("left", "item")], [method("go")]
        made(marks=marks, fields=fields, methods=methods)
        self.assertEqual((marks, fields, methods), (["sold", "lent"], [("left", "item")], [method("go")]))

    def test_two_texts_share_nothing(self):
        one, other = made(marks=["sold"]), made(fields=[("left", "item")])
        self.assertEqual((one.fields, other.marks), ((), ()))


class TestFieldAndMethod(unittest.TestCase):
    def setUp(self):
        self.text = made(fields=[("left", "item"), ("right", "item[]"), ("go", "pen")],
                         methods=[method("go"), method("pick", "pen"), method("left", "top")])

    def test_declared_fields(self):
        self.assertEqual([self.text.field(name) for name in ("left", "right", "go")], ["item", "item[]", "pen"])

    def test_declared_methods(self):
        for name, result in (("go", "item"), ("pick", "pen"), ("left", "top")):
            found = self.text.method(name)
            self.assertIs(type(found), Method)
            self.assertEqual(found, method(name, result))

    def test_what_is_not_declared(self):
        for name in ("pick", "top", "book", "item", "lef", "leftt"):
            self.assertIsNone(self.text.field(name), name)
        for name in ("right", "top", "book", "item", "pic", "pickk"):
            self.assertIsNone(self.text.method(name), name)

    def test_nothing_declared(self):
        for name in GOOD_NAMES:
            self.assertIsNone(made().field(name))
            self.assertIsNone(made().method(name))

    def test_other_objects(self):
        for value in no_names() + [("left", "item"), ["left"], {"left": "item"}, method("go"), self.text]:
            self.assertIsNone(self.text.field(value))
            self.assertIsNone(self.text.method(value))

    def test_by_keyword(self):
        self.assertEqual(self.text.field(name="left"), "item")
        self.assertEqual(self.text.method(name="go"), method("go"))

    def test_they_are_defined_in_the_class_itself(self):
        for name in ("field", "method", *PARTS):
            self.assertIn(name, vars(ClassText))


class TestEquality(unittest.TestCase):
    def test_equal_parts(self):
        one = made(above="item", marks=["sold"], fields=[("left", "item")], methods=[method("go")])
        other = made(above="item", marks=("sold",), fields=(("left", "item"),), methods=(method("go"),))
        self.assertTrue(one == other)
        self.assertFalse(one != other)
        self.assertEqual(made(), made(above="top", marks=[], fields=[], methods=[]))

    def test_each_part_matters(self):
        for parts in ({"name": "pen"}, {"above": "item"}, {"marks": ("sold",)}, {"fields": (("left", "item"),)},
                      {"methods": (method("go"),)}):
            self.assertFalse(made() == made(**parts), parts)
            self.assertTrue(made() != made(**parts), parts)
            self.assertEqual(made(**parts), made(**parts))

    def test_what_the_parts_hold_matters(self):
        self.assertNotEqual(made(fields=[("left", "item")]), made(fields=[("left", "pen")]))
        self.assertNotEqual(made(methods=[method("go")]), made(methods=[method("go", "pen")]))

    def test_the_order_of_the_parts_matters(self):
        self.assertNotEqual(made(marks=["sold", "lent"]), made(marks=["lent", "sold"]))
        self.assertNotEqual(made(fields=[("a", "x"), ("b", "x")]), made(fields=[("b", "x"), ("a", "x")]))
        self.assertNotEqual(made(methods=[method("a"), method("b")]), made(methods=[method("b"), method("a")]))

    def test_objects_of_other_classes(self):
        parts = dict(zip(PARTS, parts_of(made())))
        same = Parts(**parts, **{"_" + part: value for part, value in parts.items()})
        for other in no_texts() + ["book", tuple(parts.values()), parts, same, ClassText, method("book")]:
            self.assertIs(made() == other, False)
            self.assertIs(made() != other, True)
        self.assertFalse(made() == AlwaysEqual())


class TestWrongArguments(unittest.TestCase):
    def check(self, part, values):
        for value in values:
            with self.subTest(part=part):
                self.assertIs(refused(**{part: value}), value)

    def no_series(self):
        """Objects that are neither lists nor tuples."""
        kinds = [value for value in no_names() if type(value) not in (list, tuple)]
        return kinds + ["sold", {"sold": 1}, {"sold"}, iter(()), method("go"), made()]

    def test_the_error_is_one_of_the_package(self):
        with self.assertRaises(ClassError):
            made(name="")

    def test_name(self):
        self.check("name", no_names() + ["top"])
        for name in GOOD_NAMES:
            if name != "top":
                self.assertEqual(made(name=name).name, name)

    def test_above(self):
        self.check("above", no_names())
        for name in GOOD_NAMES:
            self.assertEqual(made(above=name).above, name)
        self.assertEqual(made(name="book", above="book").above, "book")

    def test_marks(self):
        wrong = self.no_series() + [("top",), ["sold", "top"], ("sold", "sold"), ["a", "b", "a"], (("sold",),)]
        wrong += [(value,) for value in no_names()] + [["sold", value] for value in no_names()]
        self.check("marks", wrong)
        self.assertEqual(made(name="book", above="item", marks=("item", "book")).marks, ("item", "book"))

    def test_fields(self):
        wrong = self.no_series() + [("left", "item"), [["left", "item"]], (["left", "item"],), [("left",)], [()],
                                    [("left", "item", "pen")], [("left", "item"), ("left", "item")],
                                    [("left", "item"), ("a", "b"), ("left", "pen")], [{"left": "item"}], ["ab"]]
        wrong += [[(value, "item")] for value in no_names()] + [[("left", value)] for value in no_types()]
        wrong += [[value] for value in no_names()] + [(("left", "item"), value) for value in no_names()]
        self.check("fields", wrong)

    def test_names_and_types_of_fields(self):
        for name in GOOD_NAMES:
            for kind in GOOD_TYPES:
                self.assertEqual(made(fields=[(name, kind)]).fields, ((name, kind),))
        self.assertEqual(made(fields=[("left", "item"), ("right", "item")]).field("right"), "item")

    def test_methods(self):
        same = method("go")
        parts = Parts(name="go", params=(), result="item", size=1, code=(("return", 0),))
        wrong = self.no_series() + [(same, same), [same, method("go", "pen")], [method("a"), same, same], [(same,)],
                                    [parts], [Method], [made()], [("go", (), "item", 1, (("return", 0),))]]
        wrong += [[value] for value in no_names()] + [(same, value) for value in no_names()]
        self.check("methods", wrong)
        self.assertEqual(made(methods=[method("top")]).method("top"), method("top"))

    def test_eight_and_nine(self):
        fields, methods = [(name, "item") for name in NINE], [method(name) for name in NINE]
        for part, items in (("marks", list(NINE)), ("fields", fields), ("methods", methods)):
            for many in range(9):
                for keep in (list, tuple):
                    text = made(**{part: keep(items[:many])})
                    self.assertEqual(getattr(text, part), tuple(items[:many]))
            self.check(part, [items, tuple(items)])

    def test_the_same_name_in_different_parts(self):
        text = made(name="book", marks=["book"], fields=[("book", "book")], methods=[method("book")])
        self.assertEqual((text.field("book"), text.method("book")), ("book", method("book")))

    def test_top(self):
        self.assertEqual(refused(name="top"), "top")
        self.assertEqual(refused(marks=("top",)), ("top",))
        self.assertEqual(made(above="top").above, "top")
        self.assertEqual(made(fields=[("top", "top")]).field("top"), "top")


class TestFirstWrongArgument(unittest.TestCase):
    def test_several_wrong_at_once(self):
        wrong = {"name": "top", "above": "Item", "marks": ("top",), "fields": [("left",)], "methods": [None]}
        for chosen in range(1, 32):
            picked = [part for at, part in enumerate(PARTS) if chosen >> at & 1]
            self.assertIs(refused(**{part: wrong[part] for part in picked}), wrong[picked[0]], picked)

    def test_the_order_of_the_keywords_means_nothing(self):
        with self.assertRaises(InvalidClass) as caught:
            ClassText("book", methods=None, fields="left", marks=1, above=())
        self.assertEqual(caught.exception.given, ())


if __name__ == "__main__":
    unittest.main()
