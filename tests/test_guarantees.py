"""The guarantees of point 3 over random programs, as far as no other file tests them."""

import random
import re
import unittest

from lateclasses.closing import complete
from lateclasses.eager import EagerMachine
from lateclasses.errors import ClassError
from lateclasses.journal import restored
from lateclasses.judge import first_wrong
from lateclasses.machine import Machine
from lateclasses.playing import Play
from lateclasses.questions import joined, open_assumptions, what_fails, why
from lateclasses.unloading import removable
from tests import programs
from tests.builders import machine
from tests.test_eager import has_all_ways
from tests.test_random_machine import do, played, shown


class TestRegisters(unittest.TestCase):
    """(b): what a register holds lies within its set."""

    def lies_within(self, state, value, held, loader):
        if value is None:
            return True
        heap = state.heap
        if held is None:
            return False
        if heap.many_of(value) is None:
            chain = state.chains[heap.class_of(value)]
            return any(state.meaning(loader, name) in chain for name in held if "[]" not in name)
        if "top" in held:
            return True
        inside = [heap.slot(value, index) for index in range(heap.many_of(value))]
        return any(all(each is None or self.lies_within(state, each, (kind[:-2],), loader) for each in inside)
                   for kind in held if kind.endswith("[]"))

    def test_each_instruction(self):
        registers = 0
        for seed in range(10000, 10250):
            for one, _, name, given in played(seed, seed % 3 == 0):
                if name == "run":
                    try:
                        next(one.watch(*given[:5], limit=given[5]), None)
                    except ClassError:
                        continue
                    play = Play(one.copy().state_now(), given[4], given[5], 30)
                    play.begin(*given[:4])
                    while play.goes_on():
                        frame = play.frames[-1]
                        row = play.state.checked[(frame.holder, frame.word)][frame.at]
                        for value, held in zip(frame.spots, row):
                            if held is not None:
                                self.assertTrue(self.lies_within(play.state, value, held, frame.holder[0]), seed)
                                registers += value is not None
                        play.perform()
                do(one, name, given)
        self.assertGreater(registers, 5000)


class TestReasons(unittest.TestCase):
    def test_checking_loads_nothing(self):
        """(a)"""
        for seed in range(10000, 10150):
            for one, _, name, given in played(seed):
                before = one.list_loaded()
                do(one, name, given)
                if name in ("check", "bind"):
                    self.assertEqual(one.list_loaded(), before)

    def test_assumptions_hold_for_what_is_live(self):
        """(c): decided when the first object could be there, and not before."""
        for seed in range(10000, 10150):
            for one, _, name, given in played(seed, seed % 3 == 0):
                do(one, name, given)
                opened = open_assumptions(one)
                for loader, low, high, _ in one.list_assumptions():
                    identity = one.meaning(loader, low)
                    self.assertEqual((loader, low, high) in opened, identity not in one)
                    if identity in one:
                        self.assertIn(one.meaning(loader, high), one[identity])

    def test_each_class_has_its_reason(self):
        """(d)"""
        for seed in range(10000, 10150):
            for one, _, name, given in played(seed, seed % 3 == 0):
                do(one, name, given)
            for identity in one.list_loaded():
                self.assertEqual(why(one, identity)[0], (identity, one.reason(identity)))

    def test_joined_loaders_agree(self):
        """(e)"""
        for seed in range(10000, 10200):
            for one, _, name, given in played(seed, seed % 3 == 0):
                do(one, name, given)
                for word, low, high, _ in one.list_equations():
                    self.assertEqual(one.meaning(low, word), one.meaning(high, word))
                    self.assertIsNotNone(joined(one, word, low, high))

    def test_closed_after_each_call(self):
        for seed in range(10000, 10100):
            for one, _, name, given in played(seed, seed % 3 == 0):
                do(one, name, given)
                state = one.copy().state_now()
                state.settled = {}
                state.change = [None]
                complete(state)
                self.assertEqual(state.change, [None])


WORDS = ("ant", "bee", "cat", "dog", "base", "lib", "shop", "desk", "f", "g", "h", "m", "n", "o")
# Other names in the same order among each other, and beside top.
OTHERS = {"ant": "aaa", "base": "aab", "bee": "bb", "cat": "ccccc", "desk": "ccccccd", "dog": "doo", "f": "ff", "g": "fg",
          "h": "hh", "lib": "i", "m": "lz", "n": "mm", "o": "p", "shop": "q"}


def renamed(value):
    if isinstance(value, str):
        return re.sub(r"\b[a-z]+\b", lambda found: OTHERS.get(found.group(), found.group()), value)
    if isinstance(value, (tuple, list)):
        return type(value)(renamed(item) for item in value)
    if isinstance(value, set):
        return {renamed(item) for item in value}
    if isinstance(value, dict):
        return {renamed(key): renamed(item) for key, item in value.items()}
    if hasattr(value, "methods"):
        from lateclasses.formats import format_class, parse_class
        return parse_class(renamed(format_class(value)))
    return value


class TestNames(unittest.TestCase):
    """(j)"""

    def test_the_other_names_are_in_the_same_order(self):
        self.assertEqual([OTHERS[word] for word in sorted(WORDS)], sorted(OTHERS.values()))
        self.assertFalse(set(OTHERS.values()) & {"load", "run", "new", "ask", "get", "put", "end"})

    def test_other_names(self):
        for seed in range(10000, 10200):
            kind = EagerMachine if seed % 3 == 0 else Machine
            two = kind()
            for one, _, name, given in played(seed, seed % 3 == 0):
                outcome, other = do(one, name, given), do(two, name, renamed(given))
                self.assertEqual((renamed(outcome[1]) if outcome[0] != "error" else outcome[1]), other[1], seed)
            left, right = shown(one), shown(two)
            left["bound"] = right["bound"] = left["tables"] = right["tables"] = None
            self.assertEqual(renamed(left), right, seed)

    def test_texts_added_in_another_order(self):
        for seed in range(10000, 10200):
            rng = random.Random(seed)
            plan, first, more = programs.some_program(rng)
            calls = first + more
            loaders = [call for call in calls if call[0] == "add_loader"]
            texts = [call for call in calls if call[0] != "add_loader"]
            one, two = Machine(), Machine()
            for call in loaders + texts:
                do(one, *call)
            rng.shuffle(texts)
            for call in loaders + texts:
                do(two, *call)
            for _ in range(15):
                call = programs.random_run(rng, plan, one.loaders, one.keeps())
                self.assertEqual(do(one, *call), do(two, *call))
            left, right = shown(one), shown(two)
            del left["journal"], right["journal"]
            self.assertEqual(left, right)


class TestOneLoaderBesideTwo(unittest.TestCase):
    def test_all_texts_in_the_base(self):
        """A second loader that has nothing and asks the first one for everything tells the same."""
        for seed in range(10000, 10150):
            rng = random.Random(seed)
            plan = programs.Plan(rng)
            texts = [plan.text(name) for name in plan.names]
            one, two = machine("loader base"), machine("loader base", "loader shop base")
            for text in texts:
                one.add_class("base", text)
                two.add_class("base", text)
            for _ in range(10):
                _, given = programs.random_run(rng, plan, ("base",), one.keeps())
                left = do(one, "run", given)
                right = do(two, "run", ("shop", *given[1:]))
                if left[1][1][0] == "failed" and left[1][1][2] is None:
                    # The trail may begin with the binding in the other loader.
                    self.assertEqual(right[1][1][1][0], left[1][1][1][0])
                else:
                    self.assertEqual(left, right)
            self.assertEqual(one.list_loaded(), two.list_loaded())
            self.assertEqual(one.list_assumptions(), two.list_assumptions())

    def test_parts_in_two_loaders(self):
        """Texts that are distributed over loaders so that all names mean the same tell the same, but for the loaders."""
        agreed = 0
        for seed in range(10000, 10400):
            rng = random.Random(seed)
            plan = programs.Plan(rng, weave=False)
            texts = [plan.text(name) for name in plan.names]
            one, two = machine("loader base"), machine("loader base", "loader shop base")
            for text in texts:
                one.add_class("base", text)
                two.add_class(rng.choice(("base", "shop")), text)
            if not has_all_ways(two.tables_now()):
                continue
            for _ in range(10):
                _, given = programs.random_run(rng, plan, ("base",), {})
                given = given[:3] + ((None,) * len(given[3]),) + given[4:6] + (None,)
                left, right = do(one, "run", given)[1], do(two, "run", ("shop", *given[1:]))[1]
                self.assertEqual(self.bare(left[0]), self.bare(right[0]))
                self.assertEqual((left[1][0], left[2], self.bare(left[3])), (right[1][0], right[2], self.bare(right[3])))
                agreed += left[2] > 3
        self.assertGreater(agreed, 50)

    def bare(self, told):
        return [each.partition("@")[0] if isinstance(each, str) else each[1] for each in told]


class TestOrdersOfCalls(unittest.TestCase):
    def test_calls_that_all_succeed(self):
        """Binding, loading and checking in another order leads to the same classes, meanings and assumptions."""
        compared = 0
        for seed in range(10000, 10400):
            rng = random.Random(seed)
            plan, first, more = programs.some_program(rng)
            one, two = Machine(), Machine()
            for name, given in first + more:
                do(one, name, given)
                do(two, name, given)
            calls = [(rng.choice(("load", "bind")), (rng.choice(one.loaders), rng.choice(plan.names))) for _ in range(8)]
            good = [call for call in calls if do(one, *call)[0] == "result"]
            checks = [("check", (identity, method.name)) for identity in one.list_loaded()
                      for method in one.tables_now().text(*identity).methods if rng.random() < 0.6]
            good += [call for call in checks if do(one, *call)[0] == "result"]
            again = good[:]
            rng.shuffle(again)
            again.sort(key=lambda call: call[0] == "check")
            outcomes = [do(two, *call)[0] for call in again]
            self.assertNotIn("error", outcomes)
            if "failure" in outcomes:
                self.fail((seed, outcomes))
            left, right = shown(one), shown(two)
            for word in ("loaded", "equations", "assumptions"):
                left[word], right[word] = sorted(map(str, left[word])), sorted(map(str, right[word]))
            self.assertEqual(left["bound"], right["bound"], seed)
            self.assertEqual(left["tables"], right["tables"])
            self.assertEqual([identity for identity in one.list_loaded() if identity not in two], [])
            self.assertEqual({each[:3] for each in one.list_assumptions()}, {each[:3] for each in two.list_assumptions()})
            compared += len(one) > 2 and again != good
        self.assertGreater(compared, 100)


class TestWhatChangesNoRun(unittest.TestCase):
    def test_kept_objects_releases_and_questions(self):
        """Runs do the same, whatever is kept, released or asked in between."""
        for seed in range(10000, 10200):
            rng = random.Random(seed)
            plan, first, more = programs.some_program(rng)
            one, two = Machine(), Machine()
            for name, given in first + more:
                do(one, name, given)
                do(two, name, given)
            for _ in range(12):
                _, given = programs.random_run(rng, plan, one.loaders, {})
                self.assertEqual(do(one, "run", given[:6] + (None,)), do(two, "run", given[:6] + ("kept",)))
                self.disturb(rng, two)
            left, right = shown(one), shown(two)
            self.assertEqual([change for change in two.journal() if change[0][0] != "release"], one.journal())
            for word in ("journal", "released", "keeps", "removable"):
                del left[word], right[word]
            self.assertEqual(left, right)

    def disturb(self, rng, two):
        loader = rng.choice(two.loaders)
        word = rng.choice(programs.NAMES)
        two.release(loader)
        what_fails(two, loader, word)
        open_assumptions(two)
        removable(two)
        restored(two.journal())
        self.assertIsNone(first_wrong(two.journal()))
        list(two.watch(loader, word, "m"))
        with two.trial() as trial:
            do(trial.machine, "load", (loader, word))
        two.attempt(lambda twin: do(twin, "run", (loader, word, "m", (), (), 9, "kept")) and None)


class TestOutages(unittest.TestCase):
    def test_a_run_goes_on_as_if_all_were_up(self):
        """(point 28) up to the first class that is missing; then nothing is changed."""
        ended = 0
        for seed in range(10000, 10300):
            rng = random.Random(seed)
            for one, _, name, given in played(seed, seed % 4 == 0):
                if name in ("run", "load", "bind", "check"):
                    for loader in one.loaders:
                        one.bring_up(loader)
                    two = one.copy()
                    for loader in one.loaders:
                        if rng.random() < 0.3:
                            two.take_down(loader)
                    before = shown(two)
                    late, early = do(one.copy(), name, given), do(two, name, given)
                    ended += self.hold(before, two, name, late, early)
                do(one, name, given)
        self.assertGreater(ended, 100)

    def hold(self, before, two, name, late, early):
        """Whether Down came up; then all else is as without outages."""
        if late == early:
            return False
        failure = early[1] if name != "run" else early[1][1][1]
        self.assertEqual(failure[0], "Down")
        self.assertIn(failure[1][0][0], two.down)
        self.assertEqual(failure[2][-1], ("load", failure[1][0]))
        if name == "run" and early[1][1][2] is not None:
            steps = early[1][2]
            self.assertEqual(early[1][0], late[1][0][:len(early[1][0])])
            self.assertLessEqual(steps, late[1][2])
            self.assertEqual(early[1][3], late[1][3][:len(early[1][3])])
        else:
            self.assertEqual(shown(two), before)
        return True


if __name__ == "__main__":
    unittest.main()
