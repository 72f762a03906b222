"""Questions about a machine: point 25, and point 3 (k)."""

import random
import unittest

from lateclasses.classes import ClassText
from lateclasses.errors import ClassError, Failing
from lateclasses.journal import restored
from lateclasses.questions import joined, open_assumptions, what_fails, what_if, who, why
from tests import programs
from tests.builders import eager, machine, text
from tests.samples import AlwaysEqual, no_names
from tests.test_random_machine import do, do_slowly, played, shown


class TestWhy(unittest.TestCase):
    def test_above(self):
        one = machine("loader base", "class base item top", "class base book item", "loader shop base",
                      "class shop novel book")
        one.load("shop", "novel")
        novel, book, item = ("shop", "novel"), ("base", "book"), ("base", "item")
        self.assertEqual(why(machine=one, identity=item), [(item, ("above", book)), (book, ("above", novel)), (novel, ("asked",))])
        self.assertEqual(why(one, novel), [(novel, ("asked",))])

    def test_eager(self):
        one = eager("loader shop", "class shop item top;field f pen", "class shop pen ink", "class shop ink top;field g gel",
                    "class shop gel top")
        one.load("shop", "item")
        item, pen, ink, gel = [("shop", name) for name in ("item", "pen", "ink", "gel")]
        self.assertEqual(why(one, gel), [(gel, ("eager", ink)), (ink, ("above", pen)), (pen, ("eager", item)), (item, ("asked",))])

    def test_new_and_run(self):
        one = machine("loader shop", "class shop desk top;method m 2 item;new 1 item;return 1;end", "class shop item top")
        one.run("shop", "desk", "m")
        place = ("shop", "desk", "m", 0)
        self.assertEqual(why(one, ("shop", "item")), [(("shop", "item"), ("new", place))])
        self.assertEqual(why(one, ("shop", "desk")), [(("shop", "desk"), ("run",))])

    def test_as_long_as_it_is_loaded(self):
        one = machine("loader base", "class base item top", "loader shop base", "class shop book item")
        one.load("shop", "book")
        one.release("shop")
        one.unload()
        self.assertEqual(why(one, ("base", "item")), [(("base", "item"), ("above", ("shop", "book")))])

    def test_errors(self):
        one = machine("loader shop", "class shop item top")
        for given in (("shop", "item"), ("", "top"), None, "item", [], 0):
            with self.assertRaises(ClassError) as caught:
                why(one, given)
            self.assertEqual((type(caught.exception).__name__, caught.exception.given), ("NotLoaded", given))

    def test_random_machines(self):
        for seed in range(7000, 7150):
            for one, _, name, given in played(seed, seed % 2 == 0):
                do(one, name, given)
            for identity in one.list_loaded():
                found = why(one, identity)
                self.assertEqual(found[0][0], identity)
                for (at, reason), (later, _) in zip(found, found[1:]):
                    self.assertEqual((reason[0] in ("above", "eager"), reason[1]), (True, later))
                    if reason[0] == "above":
                        self.assertEqual(one[later].chain[1], at)
                self.assertTrue(all(one.reason(at) == reason for at, reason in found))
                last = found[-1][1]
                self.assertTrue(last[0] in ("asked", "run", "new") or last[1] not in one)


class TestWho(unittest.TestCase):
    def setUp(self):
        self.one = machine("loader shop", "class shop shelf top;method a 2 item;new 1 book;return 1;end"
                           ";method b 2 item;new 1 book;tell 1;return 1;end", "class shop item top", "class shop book item")
        self.one.load("shop", "shelf")
        self.one.check(("shop", "shelf"), "b")
        self.one.check(("shop", "shelf"), "a")

    def test_places(self):
        places = [("shop", "shelf", "b", 2), ("shop", "shelf", "a", 1)]
        self.assertEqual(who(machine=self.one, loader="shop", one="book", other="item"), places)
        self.one.load("shop", "book")
        self.assertEqual(who(self.one, "shop", "book", "item"), places)
        who(self.one, "shop", "book", "item").clear()
        self.assertEqual(who(self.one, "shop", "book", "item"), places)

    def test_others(self):
        for given in (("shop", "item", "book"), ("none", "book", "item"), ("shop", "book", "top"), (None, None, None),
                      ([], {}, ()), ("shop", AlwaysEqual(), "item"), ([], "book", "item"), ("shop", {}, "item"),
                      ("shop", "book", []), ("shop", "book", ["item"])):
            self.assertEqual(who(self.one, *given), [])


class TestJoined(unittest.TestCase):
    def ways(self, one, name, loader, other, seen=()):
        """All ways through the equations, without those that go twice through a loader."""
        if loader == other:
            return [()]
        found = []
        for number, (word, low, high, _) in enumerate(one.list_equations()):
            if word == name and loader in (low, high):
                to = high if loader == low else low
                if to not in seen + (loader,):
                    found += [(number, *way) for way in self.ways(one, name, to, other, seen + (loader,))]
        return found

    def test_random_machines(self):
        counts = {}
        for seed in range(7000, 7400):
            for one, slow, name, given in played(seed):
                if do(one, name, given)[0] != "error":
                    do_slowly(slow, name, given)
            equations = one.list_equations()
            for name in programs.NAMES:
                for loader in one.loaders:
                    for other in one.loaders:
                        ways = sorted(self.ways(one, name, loader, other), key=lambda way: (len(way), way))
                        expected = tuple(equations[number] for number in ways[0]) if ways else None
                        self.assertEqual(joined(one, name, loader, other), expected)
                        self.assertEqual(slow.shortest(name, loader, other), expected)
                        counts[len(ways[0]) if ways else None] = counts.get(len(ways[0]) if ways else None, 0) + 1
        self.assertGreater(counts[1], 20)
        self.assertGreater(counts[2], 5)

    def test_the_same_and_errors(self):
        one = machine("loader base", "loader shop base")
        self.assertEqual((joined(one, "item", "shop", "shop"), joined(one, "item", "shop", "base"),
                          joined(machine=one, name="top", loader="shop", other="base")), ((), None, None))
        for given in (None, "none", [], 0, ("shop",)):
            for pair in ((given, "shop"), (given, given), ("shop", given)):
                with self.assertRaises(ClassError) as caught:
                    joined(one, "item", *pair)
                self.assertEqual((type(caught.exception).__name__, caught.exception.given), ("UnknownLoader", given))


class TestOpen(unittest.TestCase):
    def test_before_and_behind_decisions(self):
        one = machine("loader shop", "class shop shelf top;method a 3 item;new 1 book;new 2 pen;choose 4;return 1;return 2;end",
                      "class shop item top", "class shop book item", "class shop pen item")
        self.assertEqual(open_assumptions(one), [])
        one.load("shop", "shelf")
        one.check(("shop", "shelf"), "a")
        self.assertEqual(open_assumptions(machine=one), [("shop", "book", "item"), ("shop", "pen", "item")])
        one.load("shop", "pen")
        self.assertEqual(open_assumptions(one), [("shop", "book", "item")])
        open_assumptions(one).clear()
        self.assertEqual(open_assumptions(restored(one.journal())), [("shop", "book", "item")])

    def test_random_machines(self):
        """Those of which the lower name is not live are open."""
        for seed in range(7000, 7200):
            for one, _, name, given in played(seed, seed % 4 == 0):
                do(one, name, given)
                expected = [(loader, low, high) for loader, low, high, _ in one.list_assumptions()
                            if one.meaning(loader, low) not in one]
                self.assertEqual(open_assumptions(one), expected)


class TestWhatFails(unittest.TestCase):
    def test_beside_a_load(self):
        found = 0
        for seed in range(7000, 7200):
            rng = random.Random(seed)
            for one, _, name, given in played(seed, seed % 3 == 0):
                do(one, name, given)
                if rng.random() < 0.3:
                    for loader in one.loaders:
                        word = rng.choice(programs.NAMES + ("top", "none"))
                        before = shown(one), one.calls()
                        failure = what_fails(one, loader, word)
                        self.assertEqual((shown(one), one.calls()), before)
                        outcome = do(one.copy(), "load", (loader, word))
                        self.assertEqual(outcome[1] if outcome[0] == "failure" else None, failure)
                        found += failure is not None
        self.assertGreater(found, 200)

    def test_outages(self):
        one = machine("loader base", "class base item top")
        self.assertIsNone(what_fails(machine=one, loader="base", name="item"))
        one.take_down("base")
        self.assertEqual(what_fails(one, "base", "item")[0], "Down")

    def test_errors(self):
        one = machine("loader base")
        for given in (None, "none", []):
            with self.assertRaises(ClassError) as caught:
                what_fails(one, given, None)
            self.assertEqual((type(caught.exception).__name__, caught.exception.given), ("UnknownLoader", given))
        for given in no_names():
            with self.assertRaises(ClassError) as caught:
                what_fails(one, "base", given)
            self.assertEqual(type(caught.exception).__name__, "InvalidName")
            self.assertIs(caught.exception.given, given)


class TestWhatIf(unittest.TestCase):
    LINES = ("loader shop", "class shop item top", "class shop book item",
             "class shop desk top;method m 2 item;choose 3;new 1 item;return 1;new 1 book;return 1;end")

    def test_the_same_text(self):
        one = machine(*self.LINES)
        one.run("shop", "desk", "m", (), [True], keep="b")
        self.assertEqual(what_if(one, "shop", text("book item")), [])

    def test_another_text(self):
        one = machine(*self.LINES)
        one.run("shop", "desk", "m", (), [False])
        good = one.run("shop", "desk", "m", (), [True], keep="b")
        one.load("shop", "book")
        one.run("shop", "desk", "m", ["b"])
        one.forget("b")
        found = what_if(machine=one, loader="shop", text=text("book top"))
        self.assertEqual([index for index, _, _ in found], [5, 6, 7, 8])
        index, before, after = found[0]
        self.assertEqual(before, good.parts())
        self.assertEqual((after[1][0], after[1][1][0], after[3]), ("failed", "Refused", ()))
        self.assertEqual((found[1][1], found[1][2][0], found[1][2][1][0]), (("shop", "book"), "error", "Refused"))
        # The other calls have the same arguments, though nothing is kept there.
        self.assertEqual([after for _, _, after in found[2:]], [("error", None), ("error", None)])
        self.assertEqual([before for _, before, _ in found[2:]], [one.calls()[7][2], None])

    def test_lists_are_told_as_tuples(self):
        one = machine("loader base", "class base item top", "loader shop", "class shop box top;field f item")
        one.load("shop", "box")
        one.release("base")
        one.release("shop")
        one.take_down("base")
        self.assertEqual(one.copy().unload(), ["base", "shop"])
        two = one.copy()
        two.unload()
        with self.assertRaises(ClassError):
            what_if(two, "shop", text("box top"))
        one.run("shop", "box", "m", keep="b")
        self.assertEqual(what_if(one, "shop", text("box top;field f pen")), [])
        found = what_if(one, "shop", text("box pen"))
        self.assertEqual(found[0], (4, ("shop", "box"), ("error", ("NoClass", ("shop", "pen"),
                                                                   (("load", ("shop", "box")), ("bind", "shop", "pen"))))))

    def test_eager_machines(self):
        one = eager(*self.LINES)
        one.load("shop", "desk")
        found = what_if(one, "shop", text("book none"))
        self.assertEqual([(index, after[0], after[1][0]) for index, _, after in found], [(4, "error", "NoClass")])
        late = machine(*self.LINES)
        late.load("shop", "desk")
        self.assertEqual(what_if(late, "shop", text("book none")), [])

    def test_trials_and_outages(self):
        one = machine(*self.LINES)
        with one.trial() as trial:
            trial.machine.take_down("shop")
            trial.machine.bring_up("shop")
            trial.machine.load("shop", "book")
            trial.accept()
        self.assertEqual([index for index, _, _ in what_if(one, "shop", text("book none"))], [6])

    def test_errors(self):
        one = machine(*self.LINES)
        for given, error in (((None, None), "UnknownLoader"), (("none", 5), "UnknownLoader"), (("shop", None), "InvalidClass"),
                             (("shop", "class book top"), "InvalidClass"), (("shop", text("none top")), "UnknownClass")):
            with self.assertRaises(ClassError) as caught:
                what_if(one, *given)
            self.assertEqual(type(caught.exception).__name__, error)
            stored = vars(caught.exception)
            self.assertEqual(stored, {"given": given[0 if error == "UnknownLoader" else 1]} if error != "UnknownClass"
                             else {"loader": "shop", "word": "none"})

    def test_random_machines(self):
        told = 0
        for seed in range(7000, 7150):
            rng = random.Random(seed)
            plan, _, _ = programs.some_program(random.Random(seed))
            for one, _, name, given in played(seed, seed % 3 == 0):
                do(one, name, given)
            tables = one.tables_now()
            homes = [(loader, word) for loader in tables.names for word in tables[loader].classes]
            if not homes:
                continue
            loader, word = rng.choice(homes)
            before = shown(one), one.calls()
            self.assertEqual(what_if(one, loader, tables.text(loader, word)), [])
            other = plan.text(word) if rng.random() < 0.7 else ClassText(word)
            found = what_if(one, loader, other)
            self.assertEqual((shown(one), one.calls()), before)
            self.assertEqual(found, self.slowly(one, loader, other))
            told += len(found)
        self.assertGreater(told, 100)

    def slowly(self, one, loader, other):
        twin = one.fresh()
        found = []
        for index, (name, given, result) in enumerate(one.calls()):
            if name == "add_class" and (given[0], given[1].name) == (loader, other.name):
                given = (loader, other)
            outcome = do(twin, name, given)
            after = {"result": outcome[1], "failure": ("error", outcome[1]), "error": ("error", None)}[outcome[0]]
            after = tuple(after) if isinstance(after, list) else after
            if after != result:
                found.append((index, result, after))
        return found

    def test_what_comes_out_is_what_a_machine_does(self):
        one = machine(*self.LINES)
        one.run("shop", "desk", "m", (), [True])
        other = machine("loader shop", "class shop item top", "class shop book none", self.LINES[3])
        found = what_if(one, "shop", text("book none"))
        self.assertEqual(found[0][2], other.run("shop", "desk", "m", (), [True]).parts())
        with self.assertRaises(Failing):
            other.load("shop", "book")


if __name__ == "__main__":
    unittest.main()
