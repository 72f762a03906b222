"""Binding: points 10 and 11."""

import unittest

from lateclasses.classes import ClassText
from lateclasses.errors import NameFixed
from tests.builders import failure, machine
from tests.test_random_machine import shown

ROW = ("loader base", "loader lib base", "loader shop lib")


def uses(loader, name, code, params="", result="top"):
    """The line of a class with one checked method."""
    return f"class {loader} {name} top;method m 3 {result}{params};{code};return 0;end"


class TestWays(unittest.TestCase):
    def test_each_place_of_the_text(self):
        for home in ("base", "lib", "shop"):
            one = machine(*ROW, f"class {home} item top")
            self.assertEqual(one.bind("shop", "item"), (home, "item"))
            self.assertEqual(one.meaning("shop", "item"), (home, "item"))
            self.assertEqual(one.journal()[-1], (("bind", "shop", "item", (home, "item")),))

    def test_nowhere(self):
        one = machine(*ROW)
        before = shown(one)
        self.assertEqual(failure(one.bind, "shop", "item"),
                         ("NoClass", ("shop", "item"), (("bind", "shop", "item"),)))
        self.assertEqual(shown(one), before)
        # Nothing is fixed by what fails.
        one.add_class("lib", ClassText("item"))
        self.assertEqual(one.bind("shop", "item"), ("lib", "item"))

    def test_only_this_loader_is_bound(self):
        one = machine(*ROW, "class base item top")
        one.bind("shop", "item")
        self.assertEqual([one.meaning(loader, "item") for loader in ("base", "lib", "shop")],
                         [None, None, ("base", "item")])

    def test_asks_come_ahead_of_the_rest(self):
        one = machine(*ROW, "class base item top", "class lib item top", "ask shop item base")
        self.assertEqual(one.bind("shop", "item"), ("base", "item"))
        self.assertEqual(one.bind("lib", "item"), ("lib", "item"))

    def test_an_ask_that_leads_nowhere(self):
        one = machine("loader base", "loader other", "loader shop base", "class base item top", "ask shop item other")
        self.assertEqual(failure(one.bind, "shop", "item")[0], "NoClass")

    def test_again(self):
        one = machine(*ROW, "class base item top")
        first = one.bind("shop", "item")
        before = shown(one)
        self.assertEqual(one.bind("shop", "item"), first)
        self.assertEqual(shown(one), before)

    def test_top(self):
        one = machine(*ROW)
        self.assertEqual(one.bind("shop", "top"), ("", "top"))
        self.assertEqual(one.meaning("lib", "top"), ("", "top"))
        self.assertEqual(len(one.journal()), 3)
        self.assertEqual(one.load("shop", "top"), ("", "top"))
        self.assertEqual((one.list_loaded(), len(one), ("", "top") in one), ([], 0, False))

    def test_a_bound_name_on_the_way(self):
        one = machine(*ROW, "class base item top")
        one.bind("lib", "item")
        # lib is fixed, base too; the way from shop ends at lib.
        self.assertEqual(one.bind("shop", "item"), ("base", "item"))
        for loader in ("shop", "lib"):
            with self.assertRaises(NameFixed):
                one.add_class(loader, ClassText("item"))


class TestFixed(unittest.TestCase):
    def test_the_loaders_on_the_way_and_no_others(self):
        one = machine(*ROW, "loader other", "class lib item top")
        one.bind("shop", "item")
        for call, given in ((one.add_class, ("shop", ClassText("item"))), (one.ask, ("shop", "item", "base"))):
            with self.assertRaises(NameFixed) as caught:
                call(*given)
            self.assertEqual((caught.exception.loader, caught.exception.word), ("shop", "item"))
        one.add_class("base", ClassText("item"))
        one.add_class("other", ClassText("item"))
        one.add_class("shop", ClassText("book"))
        one.ask("shop", "pen", "base")
        self.assertEqual(one.bind("base", "item"), ("base", "item"))

    def test_ways_that_give_nothing_are_fixed_too(self):
        one = machine("loader base", "loader far", "loader shop base", "class shop box top;field held pen",
                      "class shop pen top", "loader desk far", "ask desk box shop",
                      uses("desk", "user", "null 1;get 2 1 box held pen"))
        one.load("desk", "user")
        one.check(("desk", "user"), "m")
        one.load("desk", "box")
        self.assertEqual(one.list_equations(), [("pen", "desk", "shop", ("desk", "user", "m", 1))])
        self.assertIsNone(one.meaning("desk", "pen"))
        # The way from desk gives none: it takes over what shop means.
        self.assertEqual(one.bind("shop", "pen"), ("shop", "pen"))
        self.assertEqual(one.meaning("desk", "pen"), ("shop", "pen"))
        for loader in ("desk", "far"):
            with self.assertRaises(NameFixed):
                one.add_class(loader, ClassText("pen"))
        one.add_class("base", ClassText("pen"))

    def test_fixed_is_the_last_error(self):
        one = machine(*ROW, "class base item top")
        one.bind("base", "item")
        with self.assertRaises(Exception) as caught:
            one.add_class("base", ClassText("item"))
        self.assertEqual(type(caught.exception).__name__, "NameTaken")


class TestJoined(unittest.TestCase):
    """One, two and three use boxes of each other, so that they are joined for pen, in the order of the equations."""

    LINES = ("loader one", "loader two", "loader six", "loader ten",
             "class one abox top;field held pen", "class two bbox top;field held pen",
             "class six cbox top;field held pen",
             "ask ten abox one", "ask ten bbox two", "ask ten cbox six")

    def joined(self, order, *more):
        code = ";".join(f"get 2 1 {name} held pen" + (";null 1" if name != order[-1] else "") for name in order)
        one = machine(*self.LINES, "class ten user top;method m 3 top;null 1;" + code + ";return 0;end", *more)
        one.load("ten", "user")
        for name in ("abox", "bbox", "cbox"):
            one.load("ten", name)
        one.check(("ten", "user"), "m")
        return one

    def test_the_order_of_the_equations(self):
        one = self.joined(("bbox", "abox", "cbox"))
        self.assertEqual([equation[:3] for equation in one.list_equations()],
                         [("pen", "ten", "two"), ("pen", "ten", "one"), ("pen", "ten", "six")])

    def test_the_first_joined_loader_that_has_one(self):
        for order, source in ((("abox", "bbox", "cbox"), "two"), (("cbox", "abox", "bbox"), "six")):
            one = self.joined(order, "class two pen top")
            self.assertEqual(one.bind("one", "pen"), ("two", "pen"))
            one = self.joined(order, "class two pen top", "class six pen top")
            found = failure(one.bind, "one", "pen")
            other = "six" if source == "two" else "two"
            # The chain leads from the source of the identity to the other one.
            self.assertEqual(found[1][:5], ("pen", source, (source, "pen"), other, (other, "pen")))
            self.assertEqual([equation[2] for equation in found[1][5]], [source, other])
            self.assertEqual(found[2], (("bind", "one", "pen"),))

    def test_all_are_bound_in_order(self):
        one = self.joined(("bbox", "cbox", "abox"), "class two pen top")
        self.assertEqual(one.bind("six", "pen"), ("two", "pen"))
        self.assertEqual(one.journal()[-1], tuple(("bind", loader, "pen", ("two", "pen"))
                                                  for loader in ("six", "ten", "two", "one")))

    def test_own_way_comes_first(self):
        one = self.joined(("abox", "bbox", "cbox"), "class two pen top", "class six pen top")
        found = failure(one.bind, "six", "pen")
        self.assertEqual(found[1][:5], ("pen", "six", ("six", "pen"), "two", ("two", "pen")))
        self.assertEqual([equation[2] for equation in found[1][5]], ["six", "two"])

    def test_none_has_one(self):
        one = self.joined(("abox", "bbox", "cbox"))
        before = shown(one)
        self.assertEqual(failure(one.bind, "six", "pen"), ("NoClass", ("six", "pen"), (("bind", "six", "pen"),)))
        self.assertEqual(shown(one), before)

    def test_mended(self):
        one = self.joined(("abox", "bbox", "cbox"))
        failure(one.load, "six", "pen")
        one.add_class("one", ClassText("pen"))
        self.assertEqual(one.load("six", "pen"), ("one", "pen"))
        self.assertEqual([one.meaning(loader, "pen") for loader in one.loaders], [("one", "pen")] * 4)

    def test_other_names_are_not_joined(self):
        one = self.joined(("abox", "bbox", "cbox"), "class one ink top")
        one.bind("one", "ink")
        self.assertEqual([one.meaning(loader, "ink") for loader in one.loaders], [("one", "ink"), None, None, None])


class TestErrors(unittest.TestCase):
    def test_order(self):
        one = machine(*ROW)
        for call in (one.bind, one.load, one.meaning):
            for given, error, stored in ((("none", "item"), "UnknownLoader", "none"), ((None, None), "UnknownLoader", None),
                                         (([], 5), "UnknownLoader", []), (("shop", "Item"), "InvalidName", "Item"),
                                         (("shop", None), "InvalidName", None), (("shop", ()), "InvalidName", ())):
                with self.assertRaises(Exception) as caught:
                    call(*given)
                self.assertEqual((type(caught.exception).__name__, caught.exception.given), (error, stored))

    def test_by_name(self):
        one = machine(*ROW, "class base item top")
        self.assertEqual(one.bind(loader="shop", name="item"), ("base", "item"))
        self.assertEqual(one.load(name="item", loader="shop"), ("base", "item"))
        self.assertEqual(one.meaning(loader="shop", name="item"), ("base", "item"))


if __name__ == "__main__":
    unittest.main()
