"""Loading: point 14, with the failures and trails of point 16."""

import unittest

from lateclasses.classes import ClassText
from tests.builders import failure, machine
from tests.samples import AlwaysEqual
from tests.test_random_machine import shown


class TestChains(unittest.TestCase):
    def test_one_class(self):
        one = machine("loader shop", "class shop item top")
        self.assertEqual(one.load("shop", "item"), ("shop", "item"))
        self.assertEqual(one.list_loaded(), [("shop", "item")])
        self.assertEqual(one.reason(("shop", "item")), ("asked",))
        self.assertEqual(one.journal()[-1], (("bind", "shop", "item", ("shop", "item")),
                                             ("load", ("shop", "item"), ("asked",))))

    def test_through_several_loaders(self):
        one = machine("loader base", "loader lib base", "loader shop lib", "class base item top",
                      "class lib book item", "class shop novel book")
        one.load("shop", "novel")
        self.assertEqual(one.journal()[-1], (
            ("bind", "shop", "novel", ("shop", "novel")), ("bind", "shop", "book", ("lib", "book")),
            ("bind", "lib", "item", ("base", "item")), ("bind", "base", "item", ("base", "item")),
            ("load", ("base", "item"), ("above", ("lib", "book"))), ("bind", "lib", "book", ("lib", "book")),
            ("load", ("lib", "book"), ("above", ("shop", "novel"))), ("load", ("shop", "novel"), ("asked",))))
        self.assertEqual(one[("shop", "novel")].chain, (("shop", "novel"), ("lib", "book"), ("base", "item"), ("", "top")))

    def test_again(self):
        one = machine("loader base", "loader shop base", "class base item top", "class base book item")
        one.load("shop", "book")
        before = shown(one)
        self.assertEqual(one.load("shop", "book"), ("base", "book"))
        self.assertEqual(shown(one), before)
        # By another loader: only bound there. Its reason stays.
        one.load("base", "item")
        self.assertEqual(one.reason(("base", "item")), ("above", ("base", "book")))

    def test_the_same_name_in_another_loader(self):
        one = machine("loader base", "loader shop base", "class base item top", "class shop book item",
                      "loader desk shop", "class desk item book")
        one.load("desk", "item")
        self.assertEqual(one.list_loaded(), [("base", "item"), ("shop", "book"), ("desk", "item")])

    def test_long_chains_in_six_loaders(self):
        names = ["a" * (1 + number // 26) + chr(97 + number % 26) for number in range(30)]
        loaders = ["one", "two", "three", "four", "five", "six"]
        one = machine()
        above = "top"
        for index, loader in enumerate(loaders):
            one.add_loader(loader, rest=loaders[index - 1] if index else None)
            for name in names:
                own = name + "x" * index
                one.add_class(loader, ClassText(own, above=above))
                above = own
        one.load("six", above)
        self.assertEqual(len(one), 180)
        self.assertEqual(len(one[("six", above)].chain), 181)
        self.assertEqual(one.list_loaded()[0], ("one", "aa"))
        self.assertEqual(one.list_loaded()[-1], ("six", above))


class TestFailures(unittest.TestCase):
    def fails(self, one, expected, *given, mend=None):
        before = shown(one)
        self.assertEqual(failure(one.load, *given), expected)
        self.assertEqual(shown(one), before)
        # The same again: nothing was left behind.
        self.assertEqual(failure(one.load, *given), expected)
        if mend:
            one.add_class(*mend)
            one.load(*given)

    def test_circles(self):
        one = machine("loader shop", "class shop item item")
        item = ("shop", "item")
        self.fails(one, ("Shape", (item, ("circle",)), (("load", item), ("load", item))), "shop", "item")
        one = machine("loader base", "loader shop base", "class base pen ink", "class base ink gel",
                      "class base gel ink", "class shop book pen")
        loads = [("load", ("base", name)) for name in ("pen", "ink", "gel", "ink")]
        self.fails(one, ("Shape", (("base", "ink"), ("circle",)), (("load", ("shop", "book")), *loads)), "shop", "book")

    def test_above_without_a_class(self):
        one = machine("loader shop", "class shop item thing", "class shop book item")
        self.fails(one, ("NoClass", ("shop", "thing"), (("load", ("shop", "book")), ("load", ("shop", "item")),
                                                        ("bind", "shop", "thing"))), "shop", "book",
                   mend=("shop", ClassText("thing")))

    def test_above_is_bound_in_the_loader_of_the_class(self):
        one = machine("loader base", "loader shop base", "class base book item", "class shop item top")
        self.fails(one, ("NoClass", ("base", "item"), (("load", ("base", "book")), ("bind", "base", "item"))),
                   "shop", "book", mend=("base", ClassText("item")))

    def test_fields(self):
        one = machine("loader shop", "class shop item top;field cost item;field left item",
                      "class shop book item;field page item", "class shop novel book;field open item;field left item;field cost item")
        novel = ("shop", "novel")
        self.fails(one, ("Shape", (novel, ("field", "left")), (("load", novel),)), "shop", "novel")

    def test_a_field_of_the_class_above_comes_first(self):
        one = machine("loader shop", "class shop item top;field cost item", "class shop book item;field cost item",
                      "class shop novel book;field cost item")
        self.fails(one, ("Shape", (("shop", "book"), ("field", "cost")), (("load", ("shop", "novel")), ("load", ("shop", "book")))),
                   "shop", "novel")

    def test_methods(self):
        base = "class shop item top;method m 1 item;return 0;end;method n 2 top item;return 0;end"
        for method, name in (("method m 1 book;return 0;end", "m"), ("method m 2 item item;return 0;end", "m"),
                             ("method n 1 top;return 0;end", "n"), ("method n 2 top top;return 0;end", "n"),
                             ("method n 2 item item;return 0;end", "n"), ("method n 2 top item[];return 0;end", "n")):
            one = machine("loader shop", base, "class shop book item;method other 1 top;return 0;end;" + method,
                          "class shop novel book")
            book = ("shop", "book")
            self.fails(one, ("Shape", (book, ("method", name)), (("load", ("shop", "novel")), ("load", book))), "shop", "novel")

    def test_methods_against_a_class_further_up(self):
        one = machine("loader shop", "class shop item top;method m 1 item;return 0;end", "class shop book item",
                      "class shop novel book;method m 1 top;return 0;end")
        self.fails(one, ("Shape", (("shop", "novel"), ("method", "m")), (("load", ("shop", "novel")),)), "shop", "novel")

    def test_the_size_and_the_code_may_differ(self):
        one = machine("loader shop", "class shop item top;method m 1 item;return 0;end",
                      "class shop book item;method m 3 item;null 1;return 1;end")
        self.assertEqual(one.load("shop", "book"), ("shop", "book"))

    def test_marks(self):
        one = machine("loader shop", "class shop item top", "class shop sold top",
                      "class shop book item;mark sold;mark new;mark old")
        book = ("shop", "book")
        self.fails(one, ("Shape", (book, ("mark", "new")), (("load", book),)), "shop", "book")
        one.add_class("shop", ClassText("new"))
        self.fails(one, ("Shape", (book, ("mark", "old")), (("load", book),)), "shop", "book",
                   mend=("shop", ClassText("old")))
        self.assertEqual(one[book].marks, (("shop", "sold"), ("shop", "new"), ("shop", "old")))

    def test_marks_are_bound_and_not_loaded(self):
        one = machine("loader base", "loader shop base", "class base sold sold", "class shop book top;mark sold")
        one.load("shop", "book")
        self.assertEqual(one.meaning("shop", "sold"), ("base", "sold"))
        self.assertEqual(one.list_loaded(), [("shop", "book")])

    def test_order(self):
        # Above, fields, methods, marks.
        lines = ["loader shop", "class shop item top;field f item;method m 1 top;return 0;end"]
        book = "class shop book {};mark none{};method m 1 {};return 0;end"
        trail = (("load", ("shop", "book")),)
        for above, field, result, reason in (("item", ";field f item", "item", ("field", "f")),
                                             ("item", "", "item", ("method", "m")), ("item", "", "top", ("mark", "none"))):
            one = machine(*lines, book.format(above, field, result))
            self.fails(one, ("Shape", (("shop", "book"), reason), trail), "shop", "book")
        one = machine(*lines, book.format("away", ";field f item", "item"))
        self.fails(one, ("NoClass", ("shop", "away"), trail + (("bind", "shop", "away"),)), "shop", "book")

    def test_another_class_above_after_a_failure(self):
        """What was found in the chain of a class that is not loaded after all is forgotten."""
        one = machine("loader base", "class base thing top;field f thing", "loader shop base", "class shop item thing",
                      "class shop book item;mark none;field f item")
        trail = (("load", ("shop", "book")),)
        self.fails(one, ("Shape", (("shop", "book"), ("field", "f")), trail), "shop", "book")
        one.add_class("shop", ClassText("thing"))
        self.fails(one, ("Shape", (("shop", "book"), ("mark", "none")), trail), "shop", "book",
                   mend=("shop", ClassText("none")))

    def test_the_name_is_bound_ahead_of_the_load(self):
        one = machine("loader shop")
        self.fails(one, ("NoClass", ("shop", "item"), (("bind", "shop", "item"),)), "shop", "item",
                   mend=("shop", ClassText("item")))


class TestOverrides(unittest.TestCase):
    """Equations between a class and the nearest one above it that has its method."""

    BASE = ("loader base", "class base item top;method m 2 pen ink;null 1;return 1;end;method n 1 pen[];null 0;return 0;end",
            "class base pen top", "class base ink top", "loader shop base")
    METHODS = ";method m 2 pen ink;null 1;return 1;end;method n 1 pen[];null 0;return 0;end"

    def test_equations(self):
        one = machine(*self.BASE, "class shop book item" + self.METHODS)
        one.load("shop", "book")
        self.assertEqual(one.list_equations(), [("ink", "shop", "base", ("shop", "book", "m", None)),
                                                ("pen", "shop", "base", ("shop", "book", "m", None))])
        self.assertEqual([entry[0] for entry in one.journal()[-1]],
                         ["bind", "bind", "bind", "load", "equation", "equation", "load"])

    def test_the_nearest_class_above(self):
        one = machine(*self.BASE, "class shop book item" + self.METHODS, "loader desk shop",
                      "class desk novel book", "class desk tale novel" + self.METHODS)
        one.load("desk", "tale")
        self.assertEqual(one.list_equations()[2:], [("ink", "desk", "shop", ("desk", "tale", "m", None)),
                                                    ("pen", "desk", "shop", ("desk", "tale", "m", None))])

    def test_no_equation_in_the_same_loader_or_for_top(self):
        one = machine("loader base", "class base item top;method m 2 top top;null 1;return 1;end",
                      "class base book item;method m 2 top top;null 1;return 1;end", "loader shop base",
                      "class shop novel item;method m 2 top top;null 1;return 1;end")
        one.load("base", "book")
        one.load("shop", "novel")
        self.assertEqual(one.list_equations(), [])

    def test_two_meanings(self):
        one = machine(*self.BASE, "class shop ink top", "class shop book item" + self.METHODS)
        one.bind("base", "ink")
        one.bind("shop", "ink")
        before = shown(one)
        equation = ("ink", "shop", "base", ("shop", "book", "m", None))
        trail = (("load", ("shop", "book")), ("equation", "ink", "shop", "base"))
        self.assertEqual(failure(one.load, "shop", "book"),
                         ("Equation", ("ink", "shop", ("shop", "ink"), "base", ("base", "ink"), (equation,)), trail))
        self.assertEqual(shown(one), before)

    def test_the_other_one_is_bound_along(self):
        one = machine(*self.BASE, "class shop book item" + self.METHODS)
        one.bind("base", "ink")
        one.bind("shop", "pen")
        one.load("shop", "book")
        self.assertEqual([one.meaning("shop", "ink"), one.meaning("base", "pen")], [("base", "ink"), ("base", "pen")])

    def test_bound_along_with_another_way(self):
        one = machine(*self.BASE, "class shop ink top", "class shop book item" + self.METHODS)
        one.bind("base", "ink")
        found = failure(one.load, "shop", "book")
        self.assertEqual(found[1][:5], ("ink", "base", ("base", "ink"), "shop", ("shop", "ink")))
        # The other way round: shop is bound.
        one = machine(*self.BASE, "class shop ink top", "class shop book item" + self.METHODS)
        one.bind("shop", "ink")
        found = failure(one.load, "shop", "book")
        self.assertEqual(found[1][:5], ("ink", "shop", ("shop", "ink"), "base", ("base", "ink")))
        self.assertEqual(found[2], (("load", ("shop", "book")), ("equation", "ink", "shop", "base")))

    def test_a_conflict_at_a_later_binding(self):
        one = machine(*self.BASE, "class shop ink top", "class shop book item" + self.METHODS)
        one.load("shop", "book")
        before = shown(one)
        for loader, other in (("shop", "base"), ("base", "shop")):
            found = failure(one.bind, loader, "ink")
            self.assertEqual(found[1][:5], ("ink", loader, (loader, "ink"), other, (other, "ink")))
            self.assertEqual((found[1][5], found[2]), (tuple(one.list_equations()[:1]), (("bind", loader, "ink"),)))
        self.assertEqual(shown(one), before)


class TestDown(unittest.TestCase):
    def test_the_first_class_on_the_way_up(self):
        one = machine("loader base", "loader lib base", "loader shop lib", "class base item top",
                      "class lib book item", "class shop novel book")
        before = shown(one)
        one.take_down("base")
        one.take_down("lib")
        trail = (("load", ("shop", "novel")), ("load", ("lib", "book")))
        self.assertEqual(failure(one.load, "shop", "novel"), ("Down", (("lib", "book"),), trail))
        one.bring_up("lib")
        self.assertEqual(failure(one.load, "shop", "novel"),
                         ("Down", (("base", "item"),), trail + (("load", ("base", "item")),)))
        one.take_down("shop")
        self.assertEqual(failure(one.load, "shop", "novel"), ("Down", (("shop", "novel"),), trail[:1]))
        one.bring_up("shop")
        one.bring_up("base")
        self.assertEqual(shown(one), before)
        one.load("shop", "novel")
        self.assertEqual(len(one), 3)

    def test_what_is_loaded_stays(self):
        one = machine("loader base", "loader shop base", "class base item top", "class shop book item")
        one.load("base", "item")
        one.take_down("base")
        self.assertEqual(one.load("shop", "book"), ("shop", "book"))
        self.assertEqual(one.down, ("base",))

    def test_names_and_ways_are_known(self):
        one = machine("loader base", "loader shop base", "class base item top")
        one.take_down("base")
        self.assertEqual(one.bind("shop", "item"), ("base", "item"))
        one.add_class("base", ClassText("book"))
        self.assertEqual(failure(one.load, "shop", "book"), ("Down", (("base", "book"),), (("load", ("base", "book")),)))

    def test_a_circle_comes_first(self):
        one = machine("loader base", "class base item item")
        one.take_down("base")
        self.assertEqual(failure(one.load, "base", "item")[0], "Down")

    def test_again_and_errors(self):
        one = machine("loader base", "loader shop")
        for _ in range(2):
            self.assertIsNone(one.take_down(loader="shop"))
        one.take_down("base")
        self.assertEqual(one.down, ("base", "shop"))
        for _ in range(2):
            self.assertIsNone(one.bring_up(loader="shop"))
        self.assertEqual(one.down, ("base",))
        for call in (one.take_down, one.bring_up):
            for given in ("none", None, [], ("base",), 0):
                with self.assertRaises(Exception) as caught:
                    call(given)
                self.assertEqual(type(caught.exception).__name__, "UnknownLoader")
        self.assertEqual(len(one.journal()), 2)


class TestSeen(unittest.TestCase):
    def setUp(self):
        self.one = machine("loader base", "loader shop base", "class base item top;mark sold", "class base sold top",
                           "class shop book item;mark sold;mark new", "class shop new top", "class shop pen item",
                           "class shop ink item")
        self.one.load("shop", "ink")
        self.one.load("shop", "book")
        self.one.load("shop", "pen")

    def test_properties(self):
        seen = self.one[("shop", "book")]
        self.assertEqual(seen.chain, (("shop", "book"), ("base", "item"), ("", "top")))
        self.assertEqual(seen.marks, (("base", "sold"), ("shop", "new")))
        self.assertEqual(len(seen), 3)
        self.assertEqual(self.one[("base", "item")].marks, (("base", "sold"),))

    def test_in(self):
        seen = self.one[("shop", "book")]
        self.assertTrue(("base", "item") in seen and ("", "top") in seen and ("shop", "book") in seen)
        for other in (("shop", "pen"), None, "item", ["base", "item"], ("base", "item", 0), (), ("base", []), 0, seen,
                      AlwaysEqual(), (AlwaysEqual(), "item"), ("base", AlwaysEqual())):
            self.assertIs(other in seen, False)

    def test_and(self):
        book, pen, item = [self.one[each] for each in (("shop", "book"), ("shop", "pen"), ("base", "item"))]
        self.assertEqual([book & pen, pen & book, book & item, item & book, book & book],
                         [("base", "item")] * 4 + [("shop", "book")])
        other = machine("loader far", "class far thing top")
        other.load("far", "thing")
        self.assertEqual(book & other[("far", "thing")], ("", "top"))
        for wrong in (None, ("base", "item"), [], self.one, "item", 0):
            with self.assertRaises(Exception) as caught:
                book & wrong
            self.assertEqual((type(caught.exception).__name__, caught.exception.given), ("InvalidOperand", wrong))

    def test_equality(self):
        self.assertTrue(self.one[("shop", "book")] == self.one[("shop", "book")])
        self.assertTrue(self.one[("shop", "book")] == self.one.copy()[("shop", "book")])
        self.assertFalse(self.one[("shop", "book")] == self.one[("shop", "pen")])
        # Without marks, both of them.
        self.assertFalse(self.one[("shop", "ink")] == self.one[("shop", "pen")])
        self.assertFalse(self.one[("shop", "book")] == self.one[("shop", "book")].chain)
        self.assertTrue(self.one[("shop", "book")] != None)

    def test_it_never_changes(self):
        seen = self.one[("shop", "pen")]
        self.one.release("shop")
        self.assertEqual(self.one.unload(), ["shop"])
        self.assertEqual((seen.chain, seen.marks), ((("shop", "pen"), ("base", "item"), ("", "top")), ()))
        with self.assertRaises(AttributeError):
            seen.chain = ()

    def test_not_loaded(self):
        for other in (("", "top"), ("shop", "new"), None, "book", ["shop", "book"], (), ("shop",), ("shop", "book", 0),
                      (["shop"], "book"), ("shop", ["book"]), ("shop", {}), 0, {}):
            self.assertFalse(other in self.one)
            for call in (self.one.__getitem__, self.one.reason, lambda given: self.one.check(given, "m")):
                with self.assertRaises(Exception) as caught:
                    call(other)
                self.assertEqual((type(caught.exception).__name__, caught.exception.given), ("NotLoaded", other))
        self.assertIn(("shop", "book"), self.one)


if __name__ == "__main__":
    unittest.main()
