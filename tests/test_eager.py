"""The eager machine, and how late and eager runs compare: point 21, and point 3 (g)."""

import random
import unittest

from lateclasses.eager import Comparison, EagerMachine, compared
from lateclasses.errors import ClassError
from lateclasses.machine import Machine
from tests import programs
from tests.builders import eager, failure, machine
from tests.test_random_machine import do, shown

DESK = ("class shop desk top;method pick 2 top;choose 3;new 1 book;return 1;new 1 pen;return 1;end",
        "class shop book top", "class shop pen top")


class TestEagerMachine(unittest.TestCase):
    def test_the_order_of_the_text(self):
        text = ("class shop user above;mark mark;field f type;field g types[];method m 3 res pa pb[]"
                ";jump 1;new 0 na;array 0 nb 1;cast 0 0 nc;ifis 0 nd 5;get 0 0 ne f nf;put 0 ng f nh 0"
                ";call 0 0 ni m nj,nk[] nl 0,0;ask 0 0 nm m - nn -;return 0;end")
        names = ["above", "mark", "type", "types", "pa", "pb", "res"] + ["n" + sign for sign in "abcdefghijklmn"]
        one = eager("loader shop", text, *[f"class shop {name} top" for name in names])
        # The method is wrong: what was loaded ahead of it is undone.
        before = shown(one)
        self.assertEqual(failure(one.load, "shop", "user")[0], "Method")
        self.assertEqual(shown(one), before)
        text = text.replace("new 0 na;", "return 0;new 0 na;")
        one = eager("loader shop", text, *[f"class shop {name} top" for name in names])
        failure(one.load, "shop", "user")
        text = text.replace("res pa", "top pa")
        names.remove("res")
        one = eager("loader shop", text, *[f"class shop {name} top" for name in names])
        one.load("shop", "user")
        self.assertEqual([name for _, name in one.list_loaded()], ["above", "user"] + names[1:])
        self.assertEqual(one.reason(("shop", "above")), ("above", ("shop", "user")))
        self.assertEqual(one.reason(("shop", "mark")), ("eager", ("shop", "user")))
        self.assertIsNotNone(one.table(("shop", "user"), "m"))

    def test_one_class_after_the_other(self):
        one = eager("loader shop", "class shop a top;field f b;field g c", "class shop b top;field f d",
                    "class shop c top", "class shop d top")
        one.load("shop", "a")
        self.assertEqual([name for _, name in one.list_loaded()], ["a", "b", "c", "d"])
        self.assertEqual(one.reason(("shop", "d")), ("eager", ("shop", "b")))

    def test_one_change(self):
        one = eager("loader shop", *DESK)
        one.load("shop", "desk")
        self.assertEqual([entry[0] for entry in one.journal()[-1]],
                         ["bind", "load", "bind", "load", "bind", "load", "check"])

    def test_ahead_of_closing(self):
        # pen is loaded ahead of the decision that refuses it.
        one = eager("loader shop", "class shop desk top;method m 2 item;new 1 pen;return 1;end", "class shop pen top",
                    "class shop item item")
        self.assertEqual(failure(one.load, "shop", "desk")[0], "Shape")
        one = eager("loader shop", "class shop desk top;method m 2 item;new 1 pen;return 1;end", "class shop pen top",
                    "class shop item top")
        self.assertEqual(failure(one.load, "shop", "desk")[0], "Refused")

    def test_trails(self):
        one = eager("loader shop", "class shop desk top;field f none")
        self.assertEqual(failure(one.load, "shop", "desk"), ("NoClass", ("shop", "none"), (("bind", "shop", "none"),)))
        one = eager("loader shop", "class shop desk top;field f pen", "class shop pen pen")
        load = ("load", ("shop", "pen"))
        self.assertEqual(failure(one.load, "shop", "desk"), ("Shape", (("shop", "pen"), ("circle",)), (load, load)))

    def test_what_fails(self):
        one = eager("loader shop", "class shop desk top;method m 2 top;new 1 pen;return 1;end",
                    "class shop pen top;field f none")
        before = shown(one)
        report = one.run("shop", "desk", "m")
        self.assertEqual((report.ending[0], report.ending[1][0], report.ending[2], report.loads), ("failed", "NoClass", None, []))
        self.assertEqual(shown(one), before)
        self.assertEqual(machine("loader shop", "class shop desk top;method m 2 top;new 1 pen;return 1;end",
                                 "class shop pen top;field f none").run("shop", "desk", "m").ending, ("returned", "pen@shop"))

    def test_names_in_code_that_is_not_performed(self):
        # All names of the text are loaded at the beginning, also those that nothing makes.
        lines = ("loader base", "class base pen top;field f ink", "loader shop base",
                 "class shop desk top;method m 2 top;array 1 top 1;ifis 0 desk 3;return 1;return 0;end")
        one = eager(*lines)
        self.assertEqual(one.run("shop", "desk", "m").ending, ("returned", "desk@shop"))

    def test_down(self):
        one = eager("loader base", "class base pen top", "loader shop base", "class shop desk top;field f pen")
        one.take_down("base")
        self.assertEqual(failure(one.load, "shop", "desk"), ("Down", (("base", "pen"),), (("load", ("base", "pen")),)))
        one.bring_up("base")
        one.load("shop", "desk")

    def test_each_call(self):
        one = eager("loader shop", *DESK)
        self.assertEqual(one.bind("shop", "desk"), ("shop", "desk"))
        self.assertEqual(len(one), 0)
        one.load("shop", "desk")
        self.assertEqual(len(one), 3)
        self.assertEqual(one.check(("shop", "desk"), "pick"), one.table(("shop", "desk"), "pick"))


class TestCompared(unittest.TestCase):
    def test_saved(self):
        one = machine("loader shop", *DESK)
        found = compared(one, "shop", "desk", "pick", (), [False])
        self.assertIsInstance(found, Comparison)
        self.assertTrue(found.agrees is True)
        self.assertEqual((found.late.loads, found.eager.loads, found.saved),
                         ([("shop", "desk"), ("shop", "book")], [("shop", "desk"), ("shop", "book"), ("shop", "pen")],
                          [("shop", "pen")]))
        self.assertEqual(len(one.journal()), 4)

    def test_new_machines(self):
        one = machine("loader shop", *DESK)
        one.run("shop", "desk", "pick", (), [False], keep="b")
        one.take_down("shop")
        before = shown(one)
        found = compared(machine=one, loader="shop", name="desk", method="pick", values=[], choices=(True,), limit=5)
        self.assertEqual(found.late.ending, ("returned", "pen@shop"))
        self.assertEqual(shown(one), before)
        self.assertEqual(compared(one, "shop", "desk", "pick", limit=0).late.ending, ("stopped",))

    def test_asks(self):
        one = machine("loader base", "class base pen top", "loader lib", "class lib pen top", "loader shop lib", "ask shop pen base",
                      "class shop desk top;method m 2 top;new 1 pen;return 1;end")
        self.assertEqual(compared(one, "shop", "desk", "m").late.ending, ("returned", "pen@base"))

    def test_the_limit_when_none_is_given(self):
        one = machine("loader shop", "class shop desk top;method m 1 top;jump 0;end")
        self.assertEqual(compared(one, "shop", "desk", "m").late.steps, 1000)

    def test_not_agreeing(self):
        one = machine("loader shop", "class shop desk top;method m 2 top;choose 3;new 1 none;return 1;return 0;end")
        found = compared(one, "shop", "desk", "m", (), [True])
        self.assertIs(found.agrees, False)
        self.assertEqual((found.late.ending[0], found.eager.ending[1][0], found.saved), ("returned", "NoClass", []))

    def test_values(self):
        one = machine("loader shop", "class shop desk top;method m 2 top desk;return 1;end")
        self.assertEqual(compared(one, "shop", "desk", "m", [None]).late.ending, ("returned", "null"))
        self.assertEqual(compared(one, "shop", "desk", "m", ()).late.ending[1][0], "Value")

    def test_errors(self):
        one = machine("loader shop", *DESK)
        one.run("shop", "desk", "pick", (), [False], keep="b")
        for given, error, stored in ((("none", None, None, ["b"], 0), "InvalidValues", ["b"]),
                                     (("none", None, None, 0), "InvalidValues", 0),
                                     (("none", None, None, [], 0), "UnknownLoader", "none"),
                                     (("shop", None, 5, [], 0), "InvalidName", None),
                                     (("shop", "desk", 5, (), 0), "InvalidName", 5),
                                     (("shop", "desk", "m", (), 0), "InvalidChoices", 0)):
            with self.assertRaises(ClassError) as caught:
                compared(one, *given)
            self.assertEqual((type(caught.exception).__name__, caught.exception.given), (error, stored))
        with self.assertRaises(ClassError) as caught:
            compared(one, "shop", "desk", "pick", limit=2001)
        self.assertEqual(caught.exception.given, 2001)

    def test_a_new_list_each_time(self):
        found = compared(machine("loader shop", *DESK), "shop", "desk", "pick", (), [False])
        found.saved.append("x")
        self.assertEqual(found.saved, [("shop", "pen")])
        for word in ("late", "eager", "saved", "agrees"):
            with self.assertRaises(AttributeError):
                setattr(found, word, None)


def has_all_ways(tables):
    """Whether each class name in all texts has a way from its loader."""
    from tests.slow_machine import names_in_text
    return all(tables.identity(loader, name) is not None for loader in tables.names
               for word in tables[loader].classes for name in names_in_text(tables.text(loader, word)))


class TestGuarantee(unittest.TestCase):
    def test_late_beside_eager(self):
        """Point 3 (g), on random programs."""
        agreed = 0
        for seed in range(400):
            rng = random.Random(seed)
            plan, first, more = programs.some_program(rng)
            one = Machine()
            for name, given in first + more:
                do(one, name, given)
            if not has_all_ways(one.tables_now()):
                continue
            for _ in range(8):
                _, (loader, name, word, values, choices, limit, _) = programs.random_run(rng, plan, one.loaders, {})
                found = compared(one, loader, name, word, [None] * len(values), choices, limit=limit)
                ending = found.eager.ending
                if ending[0] == "failed" and ending[1][0] in ("NoClass", "Equation", "Refused", "Shape", "Method"):
                    continue
                self.assertTrue(found.agrees, seed)
                self.assertLessEqual(set(found.late.loads), set(found.eager.loads))
                agreed += 1
        self.assertGreater(agreed, 300)

    def test_eager_machines_equal(self):
        self.assertIsInstance(EagerMachine().copy(), EagerMachine)


if __name__ == "__main__":
    unittest.main()
