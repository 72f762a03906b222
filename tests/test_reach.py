"""The reach of a method and its certificates: point 29, and point 3 (l)."""

import itertools
import random
import unittest

from lateclasses.errors import ClassError
from lateclasses.machine import Machine
from lateclasses.reach import is_reach, reach
from lateclasses.tables import Tables
from tests import programs, slow_reach
from tests.builders import fill, machine, tables
from tests.samples import AlwaysEqual, no_names, no_texts
from tests.test_eager import has_all_ways

SHOP = "loader shop"


def found_by(*lines, name="desk", method="m", loader="shop"):
    given = tables(SHOP, *lines)
    found = reach(given, loader, name, method)
    assert found == slow_reach.reach(given, loader, name, method)
    assert is_reach(given, loader, name, method, found)
    return list(found)


def desk(code, size=4, result="top", params=""):
    return f"class shop desk top;method m {size} {result}{params};{code};end"


def shop(name):
    return ("shop", name)


FIRST = [("class", shop("desk"), ("run",)), ("method", shop("desk"), "m", ("run",))]


class TestReach(unittest.TestCase):
    def test_at_first(self):
        self.assertEqual(found_by(desk("return 0")), FIRST)
        self.assertEqual(found_by(), [])
        self.assertEqual(found_by(name="top"), [])
        self.assertEqual(found_by(desk("return 0"), method="n"), FIRST[:1])
        self.assertEqual(found_by("class shop desk box", "class shop box top;method m 1 top;return 0;end"), [
            FIRST[0], ("method", shop("box"), "m", ("run",)), ("class", shop("box"), ("above", shop("desk")))])

    def test_chains_that_are_not_whole(self):
        self.assertEqual(found_by("class shop desk none;method m 1 top;return 0;end"), FIRST[:1])
        self.assertEqual(found_by("class shop desk desk;method m 1 top;return 0;end"), FIRST[:1])
        self.assertEqual(found_by("class shop desk box;method m 1 top;return 0;end", "class shop box desk"),
                         [FIRST[0], ("class", shop("box"), ("above", shop("desk")))])

    def test_new(self):
        found = found_by(desk("new 1 pen;new 2 ink;new 1 pen;new 3 top;new 3 none;return 1"), "class shop pen box",
                         "class shop ink pen", "class shop box top")
        self.assertEqual(found[2:], [
            ("class", shop("pen"), ("new", ("shop", "desk", "m", 0))), ("class", shop("ink"), ("new", ("shop", "desk", "m", 1))),
            ("class", shop("box"), ("above", shop("pen")))])

    def test_code_that_is_not_reached(self):
        self.assertEqual(found_by(desk("jump 2;new 1 pen;return 0"), "class shop pen top"), FIRST)

    def test_wrong_methods(self):
        self.assertEqual(found_by(desk("new 1 pen;tell 2;return 0"), "class shop pen top"), FIRST)
        wrong = "class shop pen top;method n 2 top;new 1 ink;end"
        found = found_by(desk("new 1 pen;call 2 1 pen n - top -;return 2"), wrong, "class shop ink top")
        self.assertEqual(found[-1], ("method", shop("pen"), "n", ("call", ("shop", "desk", "m", 1), shop("pen"))))

    def test_arrays_and_casts_add_nothing(self):
        self.assertEqual(found_by(desk("array 1 pen 2;cast 2 0 pen;ifis 0 pen 3;return 0"), "class shop pen top"), FIRST)

    PEN = "class shop pen top;method n 1 pen;return 0;end"
    INK = "class shop ink pen;method n 1 pen;return 0;end"
    PLACE = ("shop", "desk", "m", 2)

    def test_calls(self):
        # Both classes can be the object: the set of the register allows what lies below pen.
        found = found_by(desk("new 2 ink;new 1 pen;call 3 1 pen n - pen -;return 3"), self.PEN, self.INK)
        self.assertEqual(found[2:], [
            ("class", shop("ink"), ("new", ("shop", "desk", "m", 0))), ("class", shop("pen"), ("new", ("shop", "desk", "m", 1))),
            ("method", shop("ink"), "n", ("call", self.PLACE, shop("ink"))),
            ("method", shop("pen"), "n", ("call", self.PLACE, shop("pen")))])

    def test_the_set_of_the_register(self):
        found = found_by(desk("new 2 pen;new 1 ink;call 3 1 pen n - pen -;return 3"), self.PEN, self.INK)
        self.assertEqual([entry[1:3] for entry in found if entry[0] == "method"], [(shop("desk"), "m"), (shop("ink"), "n")])
        # Null, an array, or nothing that can be there.
        for code in ("new 2 pen;null 1;call 3 1 pen n - pen -;return 3", "new 2 pen;array 1 pen 1;call 3 1 top n - pen -;return 3"):
            self.assertEqual(len(found_by(desk(code), self.PEN, self.INK)), 3)

    def test_calls_that_differ_in_one_thing(self):
        """Of two calls of the same object each adds what it can."""
        pen = "class shop pen top;method n 1 pen;return 0;end;method k 1 pen;return 0;end;method p 2 pen ink;return 0;end"
        for code, words in (("call 3 1 pen n - pen -;null 2;call 3 1 pen k - pen -", ["m", "n", "k"]),
                            ("call 3 1 pen n pen pen 1;call 3 1 pen n - pen -", ["m", "n"]),
                            ("call 3 1 pen n - ink -;call 3 1 pen n - pen -", ["m", "n"]),
                            ("null 2;call 3 1 pen p pen pen 2;call 3 1 pen p ink pen 2", ["m", "p"]),
                            ("call 3 0 pen n - pen -;call 3 1 pen n - pen -", ["m", "n"]),
                            ("null 2;call 3 2 pen n - pen -;call 3 1 pen n - pen -", ["m", "n"]),
                            ("call 3 1 desk n - pen -;call 3 1 pen n - pen -", ["m", "n"]),
                            ("ask 3 1 pen n - pen -;call 3 1 pen n - pen -", ["m", "n"])):
            found = found_by(desk(f"new 1 pen;{code};return 3"), pen)
            self.assertEqual([entry[2] for entry in found if entry[0] == "method"], words, code)

    def test_top_in_the_set(self):
        lines = ("class shop sold top", "class shop pen top;mark sold;method n 1 top;return 0;end",
                 "class shop ink top;method n 1 top;return 0;end")
        found = found_by(desk("new 2 ink;new 2 pen;ask 3 1 sold n - top -;return 3", params=" top"), *lines)
        self.assertEqual([entry[1:3] for entry in found if entry[0] == "method"], [(shop("desk"), "m"), (shop("pen"), "n")])
        # A call of top has no object.
        found = found_by(desk("new 2 ink;new 2 pen;call 3 1 top n - top -;return 3", params=" top"), *lines)
        self.assertEqual(len([entry for entry in found if entry[0] == "method"]), 1)

    def test_marks(self):
        lines = ("class shop sold top", "class shop pen top;mark sold;method n 1 top;return 0;end", "class shop ink pen",
                 "class shop gel ink;method n 1 top;return 0;end")
        found = found_by(desk("new 1 gel;ask 3 1 sold n - top -;return 3"), *lines)
        self.assertEqual(found[4], ("method", shop("gel"), "n", ("call", ("shop", "desk", "m", 1), shop("gel"))))
        for code in ("ask 3 1 none n - top -", "ask 3 1 top n - top -", "ask 3 1 sold k - top -", "ask 3 1 sold n - pen -",
                     "ask 3 1 pen n - top -"):
            found = found_by(desk(f"new 1 gel;{code};return 3"), *lines)
            self.assertEqual(len([entry for entry in found if entry[0] == "method"]), 1, code)

    def test_other_types(self):
        for call in ("call 3 1 pen n - top -", "call 3 1 pen n pen pen 1", "call 3 1 pen k - pen -", "call 3 1 box n - pen -"):
            found = found_by(desk(f"new 2 ink;new 1 pen;{call};return 3"), self.PEN, self.INK, "class shop box top")
            self.assertEqual(len([entry for entry in found if entry[0] == "method"]), 1, call)

    def test_a_class_that_comes_later(self):
        # The class that is made by the method that is called is looked at as the object of the first call, too.
        maker = "class shop pen top;method n 2 pen;new 1 ink;return 1;end"
        found = found_by(desk("new 1 pen;call 2 1 pen n - pen -;call 3 2 pen n - pen -;return 3"), maker, self.INK)
        self.assertEqual(found[3:], [
            ("method", shop("pen"), "n", ("call", ("shop", "desk", "m", 1), shop("pen"))),
            ("class", shop("ink"), ("new", ("shop", "pen", "n", 0))),
            ("method", shop("ink"), "n", ("call", ("shop", "desk", "m", 1), shop("ink")))])

    def test_above_comes_ahead_of_the_objects(self):
        found = found_by(desk("new 1 ink;call 3 1 pen n - pen -;return 3"), self.PEN, self.INK)
        self.assertEqual([entry[:3] for entry in found[2:]], [
            ("class", shop("ink"), ("new", ("shop", "desk", "m", 0))), ("class", shop("pen"), ("above", shop("ink"))),
            ("method", shop("ink"), "n")])

    def test_ways(self):
        given = tables("loader base", "loader shop base", "class base pen top;method n 1 pen;return 0;end", "class shop ink pen",
                       "class shop desk top;method m 3 top;new 1 ink;call 2 1 pen n - pen -;return 2;end", "class base ink top")
        found = reach(given, "shop", "desk", "m")
        self.assertEqual(found[2:], (("class", shop("ink"), ("new", ("shop", "desk", "m", 0))),
                                     ("class", ("base", "pen"), ("above", shop("ink"))),
                                     ("method", ("base", "pen"), "n", ("call", ("shop", "desk", "m", 1), shop("ink")))))
        self.assertEqual(reach(given, "base", "desk", "m"), ())

    def test_errors(self):
        given = tables(SHOP)
        for call in (reach, lambda *each: is_reach(*each, ())):
            for loader in (None, "none", [], 0):
                with self.assertRaises(ClassError) as caught:
                    call(given, loader, None, None)
                self.assertEqual((type(caught.exception).__name__, caught.exception.given), ("UnknownLoader", loader))
            for name in no_names():
                for each in ((name, None), ("desk", name)):
                    with self.assertRaises(ClassError) as caught:
                        call(given, "shop", *each)
                    self.assertEqual(type(caught.exception).__name__, "InvalidName")
                    self.assertIs(caught.exception.given, name)

    def test_by_name(self):
        given = tables(SHOP, desk("return 0"))
        self.assertEqual(reach(tables=given, loader="shop", name="desk", method="m"), tuple(FIRST))
        self.assertIs(is_reach(tables=given, loader="shop", name="desk", method="m", value=tuple(FIRST)), True)
        self.assertTrue(given == tables(SHOP, desk("return 0")))


class TestCertificates(unittest.TestCase):
    LINES = (desk("new 1 pen;new 2 ink;call 3 2 pen n - pen -;return 3"), TestReach.PEN, TestReach.INK)

    def setUp(self):
        self.given = tables(SHOP, *self.LINES)
        self.found = reach(self.given, "shop", "desk", "m")

    def is_one(self, value):
        found = is_reach(self.given, "shop", "desk", "m", value)
        self.assertIn(found, (True, False))
        return found

    def test_other_orders(self):
        self.assertEqual(len(self.found), 5)
        for order in itertools.permutations(self.found):
            self.assertEqual(self.is_one(order), slow_reach.is_reach(self.given, "shop", "desk", "m", order))
        self.assertTrue(self.is_one(self.found[1:] + self.found[:1]))
        self.assertFalse(self.is_one(self.found[2:] + self.found[:2]))

    def test_other_reasons(self):
        other = ("class", shop("pen"), ("above", shop("ink")))
        self.assertTrue(self.is_one(self.found[:2] + (self.found[3], other, self.found[4])))
        self.assertFalse(self.is_one(self.found[:2] + (other, self.found[3], self.found[4])))
        self.assertFalse(self.is_one(self.found[:2] + (self.found[2], other) + self.found[3:]))

    def test_left_out_doubled_and_put_in(self):
        for number in range(5):
            self.assertFalse(self.is_one(self.found[:number] + self.found[number + 1:]))
            self.assertFalse(self.is_one(self.found[:number] + self.found[number:number + 1] + self.found[number:]))
        self.assertFalse(self.is_one(()))
        for more in (("class", shop("box"), ("run",)), ("class", ("", "top"), ("above", shop("pen"))),
                     ("method", shop("pen"), "n", ("run",)), ("method", shop("pen"), "n", ("call", ("shop", "desk", "m", 2), shop("pen")))):
            for at in range(6):
                self.assertFalse(self.is_one(self.found[:at] + (more,) + self.found[at:]))

    def test_other_objects(self):
        for value in no_texts() + ["x", list(self.found), self.found + (None,), (self.found,), self.found[:4] + (list(self.found[4]),),
                                   ((),), (("class",),), (("class", shop("desk")),), (AlwaysEqual(),), (AlwaysEqual(),) * 5]:
            if type(value) is not tuple or value != ():
                self.assertFalse(self.is_one(value))
        self.assertFalse(self.is_one(()))
        new = ("class", shop("pen"), ("new", ("shop", "desk", "m", False)))
        self.assertEqual(new, self.found[2])
        self.assertFalse(self.is_one(self.found[:2] + (new,) + self.found[3:]))
        for bad in (("class", ["shop", "pen"], self.found[2][2]), ("class", shop("pen"), ["new", self.found[2][2][1]]),
                    ("class", shop("pen"), ("new", list(self.found[2][2][1]))), self.found[2] + (None,), ("klass",) + self.found[2][1:],
                    ("class", AlwaysEqual(), self.found[2][2]), ("class", shop("pen"), AlwaysEqual()), (AlwaysEqual(),) + self.found[2][1:]):
            self.assertFalse(self.is_one(self.found[:2] + (bad,) + self.found[3:]))

    def test_reasons_of_nobody(self):
        pen, place = shop("pen"), ("shop", "desk", "m", 0)
        for reason in ((), None, "run", 5, ("run", None), ("new",), ("new", None), ("new", ()), ("new", ("shop", "desk")),
                       ("new", ("shop", "desk", "m")), ("new", place + (0,)), ("new", place, None), ("new", place[:3] + (1,)),
                       ("new", place[:3] + (2,)), ("new", place[:3] + (3,)), ("new", place[:3] + (4,)), ("new", place[:3] + (-4,)),
                       ("new", place[:3] + (None,)), ("new", ("shop", "desk", "n", 0)), ("new", ("shop", "none", "m", 0)),
                       ("above",), ("above", None), ("above", pen), ("above", shop("ink"), None), ("above", ("", "top")),
                       ("above", shop("desk")), ("call",), ("call", place), ("eager", shop("desk")), ("eager",),
                       ("call", place[:3] + (2,), shop("ink"))):
            bent = ("class", pen, reason)
            self.assertFalse(self.is_one(self.found[:2] + (bent,) + self.found[3:]), reason)
        call = self.found[4]
        self.assertEqual((call[0], call[3][0]), ("method", "call"))
        for reason in ((), ("call",), ("call", call[3][1]), call[3] + (None,), ("call", place, shop("ink")),
                       ("call", place[:3] + (3,), shop("ink")), ("call", call[3][1], shop("desk")), ("call", call[3][1], pen),
                       ("call", call[3][1], None), ("call", None, shop("ink")), ("call", (), shop("ink")), ("run",),
                       ("above", shop("ink")), ("new", place)):
            self.assertFalse(self.is_one(self.found[:4] + (call[:3] + (reason,),)), reason)
        for bent in (("class",), ("class", shop("ink")), ("method", shop("ink"), call[3]), ("method", shop("ink"), "n"),
                     ("class", shop("ink"), "n", call[3]), ("other", shop("ink"), "n", call[3]), call + (call[3],)):
            self.assertFalse(self.is_one(self.found[:4] + (bent,)))

    def test_an_object_that_is_none_by_the_tables(self):
        # ink does not lie below pen, although the code needs that.
        lines = (desk("new 2 ink;move 1 2;call 3 1 pen n - pen -;return 3"), TestReach.PEN, "class shop ink top;method n 1 pen;return 0;end")
        given = tables(SHOP, *lines)
        found = reach(given, "shop", "desk", "m")
        self.assertEqual(len(found), 3)
        more = ("method", shop("ink"), "n", ("call", ("shop", "desk", "m", 2), shop("ink")))
        self.assertTrue(is_reach(given, "shop", "desk", "m", found))
        self.assertFalse(is_reach(given, "shop", "desk", "m", found + (more,)))

    def test_nothing_to_reach(self):
        self.assertTrue(is_reach(self.given, "shop", "none", "m", ()))
        self.assertTrue(is_reach(self.given, "shop", "top", "m", ()))
        self.assertFalse(is_reach(self.given, "shop", "none", "m", self.found))


def random_tables(seed):
    rng = random.Random(seed)
    if rng.random() < 0.2:
        plan, first, more = programs.some_program(rng)
    else:
        plan = programs.Plan(rng, weave=False)
        first, more = programs.table_calls(rng, plan)
    given = Tables()
    for name, arguments in first + more:
        try:
            if name == "add_loader":
                given.add_loader(arguments[0], rest=arguments[1])
            else:
                getattr(given, name)(*arguments)
        except ClassError:
            pass
    return rng, plan, given


class TestRandomTables(unittest.TestCase):
    def test_beside_the_slow_reckoning(self):
        methods = 0
        for seed in range(9000, 9400):
            rng, plan, given = random_tables(seed)
            for _ in range(4):
                loader, name, word = programs.random_run(rng, plan, given.names, {})[1][:3]
                found = reach(given, loader, name, word)
                self.assertEqual(found, slow_reach.reach(given, loader, name, word), seed)
                methods += len([entry for entry in found if entry[0] == "method"]) > 2
                for _ in range(6):
                    bent = self.bent(rng, found)
                    self.assertEqual(is_reach(given, loader, name, word, bent),
                                     slow_reach.is_reach(given, loader, name, word, bent), seed)
                    self.assertTrue(is_reach(given, loader, name, word, found))
        self.assertGreater(methods, 50)

    def bent(self, rng, found):
        found = list(found)
        if not found:
            return (("class", ("base", "ant"), ("run",)),)
        at, other = rng.randrange(len(found)), rng.randrange(len(found))
        kind = rng.randrange(5)
        if kind == 0:
            found[at], found[other] = found[other], found[at]
        elif kind == 1:
            found.insert(other, found.pop(at))
        elif kind == 2:
            del found[at]
        elif kind == 3:
            found[at] = found[at][:-1] + (found[other][-1],)
        else:
            found[at] = found[at][:1] + (found[other][1],) + found[at][2:]
        return tuple(found)

    def test_certificates_of_other_authors(self):
        """Made by taking what can be next in whatever order."""
        made = 0
        for seed in range(9000, 9200):
            rng, plan, given = random_tables(seed)
            loader, name, word = programs.random_run(rng, plan, given.names, {})[1][:3]
            value, wanted = [], slow_reach.first(given, loader, name, word)
            while wanted:
                entry = wanted.pop(rng.randrange(len(wanted)))
                if slow_reach.key(entry) not in [slow_reach.key(other) for other in value]:
                    wanted += slow_reach.adds(given, entry, value)
                    value.append(entry)
            self.assertTrue(is_reach(given, loader, name, word, tuple(value)), seed)
            keys = {slow_reach.key(entry) for entry in reach(given, loader, name, word)}
            self.assertEqual({slow_reach.key(entry) for entry in value}, keys)
            made += len(value) > 4 and tuple(value) != reach(given, loader, name, word)
        self.assertGreater(made, 20)

    def test_runs_stay_within_the_reach(self):
        """Point 3 (l): whatever the choices, and whatever ran before it without values."""
        runs = loads = 0
        for seed in range(9000, 9500):
            rng, plan, given = random_tables(seed)
            if not has_all_ways(given):
                continue
            one = fill_machine(given)
            for _ in range(10):
                _, (loader, name, word, values, choices, limit, _) = programs.random_run(rng, plan, given.names, {})
                keys = {slow_reach.key(entry) for entry in reach(given, loader, name, word)}
                begun = len(one.journal())
                report = one.run(loader, name, word, [None] * len(values), choices, limit=limit)
                self.assertLessEqual({("class", identity) for identity in report.loads}, keys, seed)
                checked = {("method", entry[1], entry[2]) for change in one.journal()[begun:] for entry in change
                           if entry[0] == "check"}
                self.assertLessEqual(checked, keys, seed)
                runs += report.steps > 5
                loads += len(report.loads)
        self.assertGreater(runs, 100)
        self.assertGreater(loads, 100)


def fill_machine(given):
    one = Machine()
    for name in given.names:
        one.add_loader(name, rest=given[name].rest)
        for word in given[name].classes:
            one.add_class(name, given.text(name, word))
        for word, other in given[name].asks.items():
            one.ask(name, word, other)
    return one


class TestSharing(unittest.TestCase):
    def test_all_down_behind_a_load_of_the_reach(self):
        """What the reach has is loaded; then a run needs nothing that is down."""
        ran = 0
        for seed in range(9000, 9400):
            rng, plan, given = random_tables(seed)
            if not has_all_ways(given):
                continue
            loader, name, word = programs.random_run(rng, plan, given.names, {})[1][:3]
            one, two = fill_machine(given), fill_machine(given)
            try:
                for entry in reach(given, loader, name, word):
                    if entry[0] == "class":
                        two.load(*entry[1])
                    else:
                        two.check(entry[1], entry[2])
            except ClassError:
                continue
            for each in two.loaders:
                two.take_down(each)
            choices = programs.choices(rng)
            early = one.run(loader, name, word, (), choices)
            if early.ending[0] == "failed" and early.ending[1][0] in ("Equation", "Refused"):
                continue
            late = two.run(loader, name, word, (), choices)
            self.assertEqual((late.told, late.ending, late.steps, late.loads), (early.told, early.ending, early.steps, []), seed)
            ran += late.steps > 3
        self.assertGreater(ran, 20)

    def test_tables_of_a_machine(self):
        one = machine(SHOP, *TestCertificates.LINES)
        self.assertEqual(reach(one.tables_now(), "shop", "desk", "m"), reach(fill(Tables(), SHOP, *TestCertificates.LINES), "shop", "desk", "m"))


if __name__ == "__main__":
    unittest.main()
