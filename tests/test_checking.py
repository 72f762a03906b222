"""Checking, assumptions, uses and closing: points 12, 13 and 15."""

import itertools
import unittest

from lateclasses.classes import ClassText
from lateclasses.codes import Method
from lateclasses.errors import NotLoaded, UnknownName
from lateclasses.questions import open_assumptions
from lateclasses.sets import least_table
from tests.builders import failure, machine
from tests.test_random_machine import shown

SHELF = "class shop shelf top;method pick 2 item;choose 3;new 1 book;return 1;new 1 pen;return 1;end"
ITEM, BOOK, PEN = "class shop item top", "class shop book item", "class shop pen item"


def checked(*lines, method="pick", name="shelf"):
    one = machine("loader shop", *lines)
    one.load("shop", name)
    one.check(("shop", name), method)
    return one


class TestCheck(unittest.TestCase):
    def test_nothing_is_loaded(self):
        one = machine("loader shop", SHELF)
        one.load("shop", "shelf")
        table = one.check(("shop", "shelf"), "pick")
        method = one.tables_now().text("shop", "shelf").method("pick")
        self.assertEqual(table, least_table("shelf", method))
        self.assertEqual(one.table(("shop", "shelf"), "pick"), table)
        self.assertEqual(one.list_loaded(), [("shop", "shelf")])
        self.assertEqual(one.journal()[-1], (("check", ("shop", "shelf"), "pick", table),))
        self.assertEqual(one.list_assumptions(), [("shop", "book", "item", (("shop", "shelf", "pick", 2),)),
                                                  ("shop", "pen", "item", (("shop", "shelf", "pick", 4),))])
        self.assertEqual([one.meaning("shop", name) for name in ("item", "book", "pen")], [None] * 3)

    def test_again(self):
        one = checked(SHELF)
        before = shown(one)
        self.assertEqual(one.check(identity=("shop", "shelf"), method="pick"), one.table(("shop", "shelf"), "pick"))
        self.assertEqual(shown(one), before)
        self.assertEqual(len(one.calls()), 5)

    def test_places_in_order(self):
        one = machine("loader shop", "class shop shelf top;method a 2 item;new 1 book;return 1;end"
                      ";method b 3 item;new 1 pen;new 2 book;put 0 shelf f item 1;put 0 shelf f item 2;return 2;end")
        one.load("shop", "shelf")
        one.check(("shop", "shelf"), "b")
        one.check(("shop", "shelf"), "a")
        self.assertEqual(one.list_assumptions(), [
            ("shop", "pen", "item", (("shop", "shelf", "b", 2),)),
            ("shop", "book", "item", (("shop", "shelf", "b", 3), ("shop", "shelf", "b", 4), ("shop", "shelf", "a", 1)))])

    def test_wrong_method(self):
        one = machine("loader shop", "class shop shelf top;method pick 2 item;new 1 book;tell 1;end")
        one.load("shop", "shelf")
        before = shown(one)
        self.assertEqual(failure(one.check, ("shop", "shelf"), "pick"),
                         ("Method", (("shop", "shelf"), "pick", ("end", 1)), (("check", ("shop", "shelf"), "pick"),)))
        self.assertEqual(shown(one), before)
        self.assertIsNone(one.table(("shop", "shelf"), "pick"))

    def test_errors(self):
        one = checked(SHELF, ITEM, "class shop rack shelf")
        for given in (("shop", "item"), ("", "top"), None, "shelf"):
            with self.assertRaises(NotLoaded):
                one.check(given, None)
        one.load("shop", "rack")
        # Only what the class declares itself.
        for identity, method in ((("shop", "rack"), "pick"), (("shop", "shelf"), "put"), (("shop", "shelf"), None),
                                 (("shop", "shelf"), []), (("shop", "shelf"), "Pick")):
            with self.assertRaises(UnknownName) as caught:
                one.check(identity, method)
            self.assertEqual(caught.exception.given, method)
        for given in ((("shop", "rack"), "pick"), (None, None), ([], "pick"), (("shop", "shelf"), []), ("", 0)):
            self.assertIsNone(one.table(*given))


class TestDecisions(unittest.TestCase):
    def test_by_a_load(self):
        one = checked(SHELF, ITEM, BOOK, PEN)
        self.assertEqual(len(open_assumptions(one)), 2)
        one.load("shop", "book")
        self.assertEqual(open_assumptions(one), [("shop", "pen", "item")])
        self.assertEqual(one.meaning("shop", "item"), ("shop", "item"))
        one.load("shop", "pen")
        self.assertEqual((open_assumptions(one), len(one.list_assumptions())), ([], 2))

    def test_refused_by_a_load(self):
        one = checked(SHELF, ITEM, BOOK, "class shop pen top")
        before = shown(one)
        self.assertEqual(failure(one.load, "shop", "pen"), (
            "Refused", ("shop", "pen", "item", (("shop", "shelf", "pick", 4),), (("shop", "pen"), ("", "top"))),
            (("decide", "shop", "pen", "item"),)))
        self.assertEqual(shown(one), before)
        self.assertEqual(one.load("shop", "book"), ("shop", "book"))

    def test_refused_without_a_class(self):
        one = checked(SHELF, "class shop pen top")
        trail = (("decide", "shop", "pen", "item"),)
        self.assertEqual(failure(one.load, "shop", "pen")[2], trail)
        one.add_class("shop", ClassText("item"))
        self.assertEqual(failure(one.load, "shop", "pen")[0], "Refused")

    def test_bound_but_not_loaded_decides_nothing(self):
        one = checked(SHELF, ITEM, BOOK, "class shop pen top")
        one.bind("shop", "pen")
        self.assertEqual(len(open_assumptions(one)), 2)

    def test_by_a_binding(self):
        # pen is loaded by the other loader; shop only binds it later.
        lines = ("loader base", "class base pen top", "loader shop base", SHELF)
        one = machine(*lines)
        one.load("shop", "shelf")
        one.check(("shop", "shelf"), "pick")
        one.load("base", "pen")
        self.assertEqual(len(open_assumptions(one)), 2)
        before = shown(one)
        self.assertEqual(failure(one.bind, "shop", "pen"), (
            "Refused", ("shop", "pen", "item", (("shop", "shelf", "pick", 4),), (("base", "pen"), ("", "top"))),
            (("decide", "shop", "pen", "item"),)))
        self.assertEqual(shown(one), before)
        one = machine("loader base", "class base item top", "class base pen item", "loader shop base", SHELF)
        one.load("shop", "shelf")
        one.check(("shop", "shelf"), "pick")
        one.load("base", "pen")
        one.bind("shop", "pen")
        self.assertEqual(open_assumptions(one), [("shop", "book", "item")])
        self.assertEqual(one.journal()[-1], (("bind", "shop", "pen", ("base", "pen")),
                                             ("bind", "shop", "item", ("base", "item"))))

    def test_at_the_check(self):
        one = machine("loader shop", SHELF, ITEM, BOOK, "class shop pen top")
        one.load("shop", "shelf")
        one.load("shop", "pen")
        before = shown(one)
        found = failure(one.check, ("shop", "shelf"), "pick")
        self.assertEqual((found[0], found[1][:3], found[2]),
                         ("Refused", ("shop", "pen", "item"), (("decide", "shop", "pen", "item"),)))
        self.assertEqual(shown(one), before)

    def test_a_later_place_of_what_is_decided(self):
        other = ";method next 2 item;new 1 book;return 1;end"
        one = checked(SHELF + other, ITEM, BOOK, PEN)
        one.load("shop", "book")
        one.check(("shop", "shelf"), "next")
        self.assertEqual(one.list_assumptions()[0][3], (("shop", "shelf", "pick", 2), ("shop", "shelf", "next", 1)))
        self.assertEqual(open_assumptions(one), [("shop", "pen", "item")])

    def test_all_places_are_told(self):
        one = checked("class shop shelf top;method pick 2 item;new 1 pen;tell 1;return 1;end"
                      ";method next 2 item;new 1 pen;return 1;end", ITEM, "class shop pen top")
        one.check(("shop", "shelf"), "next")
        self.assertEqual(failure(one.load, "shop", "pen")[1][3],
                         (("shop", "shelf", "pick", 2), ("shop", "shelf", "next", 1)))

    def test_a_conflict_while_deciding(self):
        # Deciding binds item in shop, which is joined with base for it.
        one = machine("loader base", "class base box top;field held item", "class base item top",
                      "class base pen item", "loader shop base", "ask shop box base", "class shop item top", SHELF,
                      "class shop user top;method m 3 top;null 1;get 2 1 box held item;return 0;end")
        one.load("shop", "shelf")
        one.load("shop", "user")
        one.load("base", "box")
        one.bind("shop", "box")
        one.check(("shop", "user"), "m")
        one.check(("shop", "shelf"), "pick")
        before = shown(one)
        found = failure(one.load, "shop", "pen")
        # base has bound item when pen was loaded; along with it shop is bound.
        self.assertEqual((found[0], found[2]), ("Equation", (("load", ("base", "pen")), ("bind", "base", "item"))))
        self.assertEqual(shown(one), before)

    def test_arrays_and_their_elements(self):
        one = checked("class shop shelf top;method pick 2 item[];array 1 book 2;return 1;end", ITEM, "class shop book top")
        self.assertEqual(one.list_assumptions(), [("shop", "book", "item", (("shop", "shelf", "pick", 1),))])
        self.assertEqual(failure(one.load, "shop", "book")[0], "Refused")

    def test_other_orders(self):
        """The same calls in whatever order lead to the same that is known."""
        calls = [("load", ("shop", "book")), ("load", ("shop", "pen")), ("check", (("shop", "shelf"), "pick")),
                 ("bind", ("shop", "item"))]
        outcomes = []
        for order in itertools.permutations(calls):
            one = machine("loader shop", SHELF, ITEM, BOOK, PEN)
            one.load("shop", "shelf")
            for name, given in order:
                getattr(one, name)(*given)
            outcomes.append((sorted(one.list_loaded()), one.list_assumptions(), open_assumptions(one),
                             one.meaning("shop", "item")))
        self.assertEqual(outcomes, [outcomes[0]] * len(outcomes))

    def test_refused_in_whatever_order(self):
        calls = [("load", ("shop", "pen")), ("check", (("shop", "shelf"), "pick"))]
        for order in (calls, calls[::-1]):
            one = machine("loader shop", SHELF, ITEM, BOOK, "class shop pen top")
            one.load("shop", "shelf")
            getattr(one, order[0][0])(*order[0][1])
            found = failure(getattr(one, order[1][0]), *order[1][1])
            self.assertEqual(found[0], "Refused")


class TestUses(unittest.TestCase):
    """Equations of due uses: shop uses what base declares."""

    BASE = ("loader base", "class base box top;mark sold;field held item;field many item[]"
            ";method show 3 pen item ink;null 2;return 2;end", "class base sold top", "class base crate box",
            "loader shop base")

    def used(self, code, *more):
        one = machine(*self.BASE, f"class shop user top;method m 4 top;null 1;{code};return 0;end", *more)
        one.load("shop", "user")
        one.check(("shop", "user"), "m")
        return one

    def joined(self, one):
        return [equation[0] for equation in one.list_equations()]

    def test_get_and_put(self):
        for code in ("get 2 1 box held item", "put 1 box held item 1", "get 2 1 crate many item[]", "put 1 box many item[] 1"):
            one = self.used(code)
            self.assertEqual(one.list_equations(), [])
            one.load("base", "crate")
            # Loaded, but the name of shop is not bound.
            self.assertEqual(one.list_equations(), [])
            one.bind("shop", "crate")
            one.bind("shop", "box")
            self.assertEqual(one.list_equations(), [("item", "shop", "base", ("shop", "user", "m", 1))])

    def test_bound_and_not_loaded(self):
        one = self.used("get 2 1 box held item")
        one.bind("shop", "box")
        self.assertEqual(one.list_equations(), [])
        one.load("shop", "box")
        self.assertEqual(self.joined(one), ["item"])
        self.assertEqual(one.journal()[-1][-1], ("equation", "item", "shop", "base", ("shop", "user", "m", 1)))

    def test_call(self):
        one = self.used("call 2 1 crate show item,ink pen 1,1")
        one.load("shop", "crate")
        self.assertEqual(self.joined(one), ["item", "ink", "pen"])

    def test_ask(self):
        one = self.used("ask 2 1 sold show item,ink pen 1,1")
        one.load("shop", "crate")
        self.assertEqual(self.joined(one), [])
        one.bind("shop", "sold")
        self.assertEqual(self.joined(one), ["item", "ink", "pen"])
        one = self.used("ask 2 1 sold show item,ink pen 1,1")
        one.bind("shop", "sold")
        self.assertEqual(self.joined(one), [])
        one.load("base", "crate")
        self.assertEqual(one.list_equations()[0], ("item", "shop", "base", ("shop", "user", "m", 1)))
        self.assertIsNone(one.meaning("shop", "crate"))

    def test_other_types_or_nothing_declared(self):
        for code in ("get 2 1 box held ink", "get 2 1 box none item", "call 2 1 box show item,item pen 1,1",
                     "call 2 1 box show item,ink ink 1,1", "call 2 1 box hide item,ink pen 1,1", "get 2 1 top held item",
                     "ask 2 1 box show item,ink pen 1,1", "ask 2 1 top show item,ink pen 1,1", "new 1 box"):
            one = self.used(code)
            one.load("shop", "crate")
            for name in ("box", "sold"):
                one.bind("shop", name)
            self.assertEqual(one.list_equations(), [], code)

    def test_at_the_check(self):
        one = machine(*self.BASE, "class shop user top;method m 4 top;null 1;get 2 1 box held item;return 0;end")
        one.load("shop", "user")
        one.load("shop", "box")
        one.check(("shop", "user"), "m")
        self.assertEqual(self.joined(one), ["item"])

    def test_code_that_is_not_reached(self):
        one = self.used("jump 3;get 2 1 box held item")
        one.load("shop", "box")
        self.assertEqual(one.list_equations(), [])

    def test_the_order_of_the_uses(self):
        one = self.used("get 2 1 box held item;null 1;call 2 1 box show item,ink pen 1,1")
        one.load("shop", "box")
        self.assertEqual(one.list_equations(), [("item", "shop", "base", ("shop", "user", "m", 1)),
                                                ("ink", "shop", "base", ("shop", "user", "m", 3)),
                                                ("pen", "shop", "base", ("shop", "user", "m", 3))])

    def test_what_an_equation_binds_makes_others_due(self):
        # gel is bound in shop by the equation for gel; then the use of gel is due.
        one = machine("loader base", "class base box top;field held gel", "class base gel top;field deep ink",
                      "loader shop base", "class shop user top;method m 3 top;null 1;get 2 1 gel deep ink;null 1"
                      ";get 2 1 box held gel;return 0;end")
        one.load("shop", "user")
        one.load("base", "gel")
        one.check(("shop", "user"), "m")
        one.load("shop", "box")
        self.assertEqual([entry[:4] for entry in one.journal()[-1]], [
            ("bind", "shop", "box", ("base", "box")), ("bind", "base", "box", ("base", "box")),
            ("load", ("base", "box"), ("asked",)), ("equation", "gel", "shop", "base"),
            ("bind", "shop", "gel", ("base", "gel")), ("equation", "ink", "shop", "base")])

    def test_conflicts_are_found_at_the_later_moment(self):
        lines = ("class shop item top", "class base item top")
        equation = ("item", "shop", "base", ("shop", "user", "m", 1))
        # The equation is the later one.
        one = self.used("get 2 1 box held item", *lines)
        one.bind("shop", "item")
        one.bind("base", "item")
        before = shown(one)
        self.assertEqual(failure(one.load, "shop", "box"),
                         ("Equation", ("item", "shop", ("shop", "item"), "base", ("base", "item"), (equation,)),
                          (("equation", "item", "shop", "base"),)))
        self.assertEqual(shown(one), before)
        # One side is bound when the equation comes.
        for first, second in (("shop", "base"), ("base", "shop")):
            one = self.used("get 2 1 box held item", *lines)
            one.bind(first, "item")
            self.assertEqual(failure(one.load, "shop", "box"),
                             ("Equation", ("item", first, (first, "item"), second, (second, "item"), (equation,)),
                              (("equation", "item", "shop", "base"),)))
        # A binding is the later one.
        one = self.used("get 2 1 box held item", *lines)
        one.load("shop", "box")
        before = shown(one)
        self.assertEqual(failure(one.bind, "base", "item"),
                         ("Equation", ("item", "base", ("base", "item"), "shop", ("shop", "item"), (equation,)),
                          (("bind", "base", "item"),)))
        self.assertEqual(shown(one), before)


class TestLongChains(unittest.TestCase):
    def test_the_chain_of_equations(self):
        """five loaders in a row, each of which uses a box of the one ahead of it."""
        loaders = ["one", "two", "three", "four", "five"]
        lines = []
        for index, loader in enumerate(loaders):
            lines.append(f"loader {loader}")
            lines.append(f"class {loader} box{'abcde'[index]} top;field held item")
            if index:
                box = "box" + "abcde"[index - 1]
                lines.append(f"ask {loader} {box} {loaders[index - 1]}")
                lines.append(f"class {loader} user top;method m 3 top;null 1;get 2 1 {box} held item;return 0;end")
        one = machine(*lines, "class one item top", "class five item top")
        for index in (3, 1, 4, 2):
            one.load(loaders[index], "user")
            one.check((loaders[index], "user"), "m")
            one.load(loaders[index], "box" + "abcde"[index - 1])
        chain = {equation[1]: equation for equation in one.list_equations()}
        found = failure(one.bind, "three", "item")
        # Three has no way; one and five are as far; the equation with four was noted first.
        self.assertEqual(found[1], ("item", "five", ("five", "item"), "one", ("one", "item"),
                                    (chain["five"], chain["four"], chain["three"], chain["two"])))
        found = failure(one.bind, "two", "item")
        self.assertEqual(found[1][:5], ("item", "one", ("one", "item"), "five", ("five", "item")))
        self.assertEqual(found[1][5], (chain["two"], chain["three"], chain["four"], chain["five"]))


class TestOutcomes(unittest.TestCase):
    def test_a_method_of_the_slow_kind(self):
        """A class text that is made with lists and one with tuples lead to the same."""
        code = [("new", 1, "book"), ("return", 1)]
        for given in (code, tuple(code)):
            one = machine("loader shop", ITEM, BOOK)
            one.add_class("shop", ClassText("shelf", methods=[Method("pick", (), "item", 2, given)]))
            one.load("shop", "shelf")
            self.assertEqual(one.check(("shop", "shelf"), "pick"), ((("shelf",), None), (("shelf",), ("book",))))


if __name__ == "__main__":
    unittest.main()
