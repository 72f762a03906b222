"""What a machine shows, its calls, copies, trials and attempts."""

import random
import unittest

from lateclasses.classes import ClassText
from lateclasses.eager import EagerMachine
from lateclasses.errors import Failing
from lateclasses.machine import Machine
from lateclasses.tables import Tables
from tests.builders import eager, failure, machine, text
from tests.samples import no_names
from tests.test_random_machine import do, played, shown

LINES = ("loader base", "class base item top;field held item", "class base pen item", "loader shop base",
         "class shop desk top;method make 2 item;new 1 pen;return 1;end;method give 2 item item;return 1;end")


def made():
    one = machine(*LINES)
    one.run("shop", "desk", "make", keep="pen")
    return one


class TestTables(unittest.TestCase):
    def raises(self, name, *stored):
        class Caught:
            def __enter__(inner):
                return inner

            def __exit__(inner, kind, value, trace):
                self.assertIsNotNone(kind, name)
                self.assertEqual(kind.__name__, name)
                self.assertEqual(tuple(vars(value).values()), stored)
                return True
        return Caught()

    def test_add_loader(self):
        one = Machine()
        self.assertIsNone(one.add_loader("base"))
        self.assertIsNone(one.add_loader(name="shop", rest="base"))
        self.assertEqual(one.loaders, ("base", "shop"))
        self.assertEqual(one.journal(), [(("loader", "base", None),), (("loader", "shop", "base"),)])
        for given in no_names():
            with self.raises("InvalidName", given):
                one.add_loader(given, rest=0)
        with self.raises("NameTaken", "base"):
            one.add_loader("base", rest=0)
        for given in ("none", 0, [], "new"):
            with self.raises("UnknownLoader", given):
                one.add_loader("new", rest=given)
        for name in "cdefgh":
            one.add_loader(name)
        with self.raises("LimitExceeded", 8):
            one.add_loader("new")
        with self.raises("UnknownLoader", 0):
            one.add_loader("new", rest=0)
        self.assertEqual(len(one.journal()), 8)

    def test_add_class(self):
        one = machine("loader base", "loader shop base")
        self.assertIsNone(one.add_class(loader="shop", text=ClassText("item")))
        for given in (None, "none", [], 0):
            with self.raises("UnknownLoader", given):
                one.add_class(given, None)
        for given in (None, "item", "class item top", [], Machine()):
            with self.raises("InvalidClass", given):
                one.add_class("shop", given)
        with self.raises("NameTaken", "item"):
            one.add_class("shop", ClassText("item"))
        one.ask("shop", "pen", "base")
        with self.raises("NameTaken", "pen"):
            one.add_class("shop", ClassText("pen"))
        for number in range(39):
            one.add_class("shop", ClassText("x" + chr(97 + number // 26) + chr(97 + number % 26)))
        with self.raises("LimitExceeded", 40):
            one.add_class("shop", ClassText("last"))
        self.assertEqual(failure(one.bind, "shop", "last")[0], "NoClass")

    def test_ask(self):
        one = machine("loader base", "loader shop base", "class base item top", "class shop book top")
        self.assertIsNone(one.ask(loader="shop", name="item", other="base"))
        for given in (None, "none"):
            with self.raises("UnknownLoader", given):
                one.ask(given, None, None)
        for given in no_names() + ["top"]:
            with self.raises("InvalidName", given):
                one.ask("shop", given, None)
        for given in (None, "none", "shop", [], ""):
            with self.raises("UnknownLoader", given):
                one.ask("shop", "pen", given)
        with self.raises("UnknownLoader", "shop"):
            one.ask("base", "pen", "shop")
        for name in ("item", "book"):
            with self.raises("NameTaken", name):
                one.ask("shop", name, "base")

    def test_name_fixed_comes_last(self):
        one = machine("loader base", "loader shop base", "class base item top")
        one.bind("shop", "item")
        with self.raises("NameFixed", "shop", "item"):
            one.add_class("shop", ClassText("item"))
        with self.raises("NameFixed", "shop", "item"):
            one.ask("shop", "item", "base")
        with self.raises("UnknownLoader", "none"):
            one.ask("shop", "item", "none")
        for number in range(40):
            one.add_class("shop", ClassText("x" + chr(97 + number // 26) + chr(97 + number % 26)))
        with self.raises("LimitExceeded", 40):
            one.add_class("shop", ClassText("item"))

    def test_tables_now(self):
        one = machine(*LINES)
        tables = one.tables_now()
        self.assertIsInstance(tables, Tables)
        self.assertEqual(tables.way("shop", "pen"), ("shop", "base"))
        tables.add_class("shop", ClassText("pen"))
        tables.add_loader("new")
        self.assertEqual(one.loaders, ("base", "shop"))
        self.assertEqual(one.tables_now().way("shop", "pen"), ("shop", "base"))
        self.assertTrue(one.tables_now() == machine(*LINES).tables_now())


class TestShown(unittest.TestCase):
    def test_a_new_machine(self):
        for one in (Machine(), EagerMachine()):
            self.assertIsInstance(one, Machine)
            self.assertEqual((one.loaders, one.released, one.down, one.list_loaded(), one.list_equations(),
                              one.list_assumptions(), one.journal(), one.calls(), one.keeps(), len(one)),
                             ((), (), (), [], [], [], [], [], {}, 0))

    def test_what_is_returned_is_new(self):
        one = made()
        before = shown(one), one.calls()
        for call in (one.list_loaded, one.list_equations, one.list_assumptions, one.journal, one.calls):
            call().append("more")
            call().clear()
            self.assertIsNot(call(), call())
        one.keeps()["other"] = "x"
        report = one.copy().run("shop", "desk", "make")
        report.told.append("x")
        report.loads.append("x")
        one.unload().append("x")
        self.assertEqual((shown(one), one.calls()[:-1]), before)

    def test_properties_cannot_be_assigned(self):
        one = made()
        for word in ("loaders", "released", "down"):
            with self.assertRaises(AttributeError):
                setattr(one, word, ())

    def test_length_and_in(self):
        one = made()
        self.assertEqual(len(one), 3)
        self.assertEqual(one.list_loaded(), [("shop", "desk"), ("base", "item"), ("base", "pen")])
        self.assertTrue(all(identity in one for identity in one.list_loaded()))
        self.assertFalse(("", "top") in one or "item" in one or None in one or ["base", "item"] in one)

    def test_reasons(self):
        one = made()
        self.assertEqual([one.reason(identity) for identity in one.list_loaded()],
                         [("run",), ("above", ("base", "pen")), ("new", ("shop", "desk", "make", 0))])
        self.assertEqual(one.reason(identity=("base", "pen")), ("new", ("shop", "desk", "make", 0)))

    def test_arguments_are_not_kept(self):
        one = machine(*LINES)
        values, choices = [None], [True]
        one.run("shop", "desk", "give", values, choices)
        values.append("x")
        choices.clear()
        self.assertEqual(one.calls()[-1][1][3:5], ((None,), (True,)))

    def test_equal_calls_have_equal_results(self):
        one, two = made(), made()
        self.assertTrue(one == two)
        self.assertEqual(shown(one), shown(two))
        self.assertEqual(one.calls(), two.calls())


class TestCalls(unittest.TestCase):
    def test_each_kind(self):
        one = Machine()
        item = text("item top;method m 1 item;return 0;end")
        one.add_loader("base")
        one.add_loader("shop", rest="base")
        one.add_class("base", item)
        one.ask("shop", "item", "base")
        one.bind("shop", "item")
        one.load("shop", "item")
        table = one.check(("base", "item"), "m")
        report = one.run("shop", "item", "m", [], [True], limit=5, keep="i")
        one.forget("i")
        one.take_down("base")
        one.bring_up("base")
        one.release("shop")
        one.unload()
        self.assertEqual(one.calls(), [
            ("add_loader", ("base", None), None), ("add_loader", ("shop", "base"), None),
            ("add_class", ("base", item), None), ("ask", ("shop", "item", "base"), None),
            ("bind", ("shop", "item"), ("base", "item")), ("load", ("shop", "item"), ("base", "item")),
            ("check", (("base", "item"), "m"), table),
            ("run", ("shop", "item", "m", (), (True,), 5, "i"), report.parts()), ("forget", ("i",), None),
            ("take_down", ("base",), None), ("bring_up", ("base",), None), ("release", ("shop",), None),
            ("unload", (), ("shop",))])

    def test_what_raises_or_only_shows_is_left_out(self):
        one = made()
        before = one.calls()
        for call, given in ((one.load, ("shop", "none")), (one.bind, ("none", "x")), (one.add_loader, ("base",)),
                            (one.forget, ("none",)), (one.release, ("none",)), (one.check, (("shop", "desk"), "no"))):
            with self.assertRaises(Exception):
                call(*given)
        one.keeps()
        one.copy()
        one.trial()
        list(one.watch("shop", "desk", "make"))
        self.assertEqual(one.calls(), before)

    def test_a_call_that_changes_nothing_is_told(self):
        one = made()
        many = len(one.journal())
        one.bind("base", "item")
        one.release("shop")
        one.release("shop")
        self.assertEqual([call[0] for call in one.calls()[-3:]], ["bind", "release", "release"])
        self.assertEqual(len(one.journal()), many + 1)


class TestCopies(unittest.TestCase):
    def test_independent(self):
        for kind in (machine, eager):
            one = kind(*LINES)
            one.run("shop", "desk", "make", keep="pen")
            one.take_down("base")
            twin = one.copy()
            self.assertIs(type(twin), type(one))
            self.assertEqual((shown(twin), twin.calls()), (shown(one), one.calls()))
            before = shown(one), one.calls()
            twin.add_loader("desk", rest="shop")
            twin.bring_up("base")
            twin.forget("pen")
            twin.bind("desk", "desk")
            twin.release("shop")
            self.assertEqual((shown(one), one.calls()), before)
            after = shown(twin)
            one.add_class("shop", ClassText("new"))
            one.release("base")
            self.assertEqual(shown(twin), after)

    def test_random_machines(self):
        """A copy goes on as the machine does; the machine is not changed by it."""
        for seed in range(80):
            rng = random.Random(seed)
            twin = None
            for one, _, name, given in played(seed, seed % 2 == 1):
                if rng.random() < 0.2:
                    twin = one.copy()
                before = shown(one)
                if twin is None:
                    do(one, name, given)
                    continue
                other = do(twin, name, given)
                self.assertEqual(shown(one), before)
                self.assertEqual(do(one, name, given), other)
                self.assertEqual(shown(one), shown(twin))
                self.assertEqual(one.calls(), twin.calls())
                self.assertTrue(one == twin)


class TestTrials(unittest.TestCase):
    def test_accepted(self):
        one = made()
        before, calls = shown(one), one.calls()
        with one.trial() as trial:
            self.assertEqual(shown(trial.machine), before)
            trial.machine.load("shop", "pen")
            trial.machine.forget("pen")
            trial.machine.release("shop")
            after = shown(trial.machine)
            self.assertIsNone(trial.accept())
            self.assertEqual(shown(one), before)
        self.assertEqual(shown(one), after)
        self.assertEqual(shown(trial.machine), before)
        self.assertEqual([call[0] for call in one.calls()[len(calls):]], ["load", "forget", "release"])
        self.assertEqual(trial.machine.calls(), calls)

    def test_not_accepted(self):
        one = made()
        before = shown(one)
        with one.trial() as trial:
            trial.machine.release("shop")
        self.assertEqual(shown(one), before)
        self.assertEqual(trial.machine.released, ("shop",))

    def test_left_by_an_exception(self):
        one = made()
        before = shown(one)
        with self.assertRaises(Failing):
            with one.trial() as trial:
                trial.accept()
                trial.machine.release("shop")
                trial.machine.load("shop", "none")
        self.assertEqual(shown(one), before)
        self.assertEqual(trial.machine.released, ("shop",))

    def test_without_a_block(self):
        one = made()
        before = shown(one)
        trial = one.trial()
        trial.machine.release("shop")
        trial.accept()
        self.assertEqual(shown(one), before)

    def test_the_copy_is_made_at_once(self):
        one = made()
        trial = one.trial()
        one.release("shop")
        self.assertEqual(trial.machine.released, ())
        with trial as entered:
            self.assertIs(entered, trial)
            trial.accept()
        self.assertEqual((one.released, trial.machine.released), ((), ("shop",)))

    def test_another_block(self):
        """What was accepted counts for one block."""
        one = made()
        with one.trial() as trial:
            trial.machine.release("shop")
            trial.accept()
        with trial:
            pass
        self.assertEqual((one.released, trial.machine.released), (("shop",), ()))
        with trial:
            trial.accept()
        self.assertEqual((one.released, trial.machine.released), ((), ("shop",)))

    def test_what_the_copy_is_called_afterwards(self):
        """The machine and the copy stay independent when they have exchanged what they have."""
        one = made()
        with one.trial() as trial:
            trial.accept()
        one.release("shop")
        trial.machine.release("base")
        self.assertEqual((one.released, trial.machine.released), (("shop",), ("base",)))

    def test_trials_within_each_other(self):
        one = made()
        with one.trial() as outer:
            with outer.machine.trial() as inner:
                inner.machine.release("shop")
                inner.accept()
            self.assertEqual((one.released, outer.machine.released), ((), ("shop",)))
            outer.accept()
        self.assertEqual(one.released, ("shop",))

    def test_eager(self):
        one = eager(*LINES)
        with one.trial() as trial:
            self.assertIsInstance(trial.machine, EagerMachine)
            trial.machine.load("shop", "desk")
            trial.accept()
        self.assertEqual(len(one), 3)
        with self.assertRaises(AttributeError):
            trial.machine = one

    def test_outages(self):
        one = made()
        with one.trial() as trial:
            trial.machine.take_down("base")
            trial.accept()
        self.assertEqual((one.down, trial.machine.down), (("base",), ()))


class TestAttempts(unittest.TestCase):
    def test_true_and_false_results(self):
        for result, accepted in ((True, True), (1, True), ("x", True), ([0], True), (False, False), (None, False),
                                 (0, False), ([], False), ("", False)):
            one = made()
            seen = []

            def visit(twin):
                self.assertEqual(shown(twin), shown(one))
                twin.release("shop")
                seen.append((one.released, twin))
                return result

            self.assertIs(one.attempt(visit=visit), result)
            self.assertEqual(seen[0][0], ())
            self.assertEqual(one.released, ("shop",) if accepted else ())
            self.assertEqual(seen[0][1].released, () if accepted else ("shop",))

    def test_an_exception(self):
        one = made()
        before = shown(one)

        def visit(twin):
            twin.release("shop")
            twin.load("shop", "none")

        self.assertEqual(failure(one.attempt, visit)[0], "NoClass")
        self.assertEqual(shown(one), before)


class TestEquality(unittest.TestCase):
    def test_journals_and_keeps(self):
        one, two = made(), made()
        self.assertTrue(one == two and not one != two)
        two.forget("pen")
        self.assertFalse(one == two)
        one.forget("pen")
        self.assertTrue(one == two)
        one.add_class("shop", ClassText("new"))
        self.assertFalse(one == two)
        two.add_class("shop", ClassText("new"))
        self.assertTrue(one == two)
        # What no journal tells makes no difference.
        two.take_down("base")
        two.run("shop", "desk", "make")
        self.assertTrue(one == two)

    def test_the_names_and_texts_of_keeps(self):
        one, two = made(), made()
        two.run("shop", "desk", "make", keep="ink")
        self.assertFalse(one == two)
        one.run("shop", "desk", "make", keep="ink")
        self.assertTrue(one == two)
        one.run("shop", "desk", "give", ["ink"], keep="pen")
        two.run("shop", "desk", "give", [None])
        # Other objects with the same texts.
        two.bind("shop", "item")
        self.assertEqual(one == two, one.journal() == two.journal())

    def test_late_and_eager(self):
        one, two = Machine(), EagerMachine()
        self.assertTrue(one == two and two == one)
        for each in (one, two):
            each.add_loader("base")
            each.add_class("base", ClassText("item"))
            each.load("base", "item")
        self.assertTrue(one == two)

    def test_other_objects(self):
        one = made()
        for other in (None, 0, one.journal(), one.tables_now(), "machine", (), Machine):
            self.assertIs(one == other, False)
            self.assertIs(one != other, True)


class TestOrderOfAdding(unittest.TestCase):
    def test_the_order_of_classes_changes_nothing(self):
        for order in (LINES, (LINES[0], LINES[3], LINES[4], LINES[2], LINES[1])):
            one = machine(*order)
            one.run("shop", "desk", "make", keep="pen")
            self.assertEqual((one.list_loaded(), one.list_assumptions(), one.keeps()),
                             (made().list_loaded(), made().list_assumptions(), made().keeps()))


if __name__ == "__main__":
    unittest.main()
