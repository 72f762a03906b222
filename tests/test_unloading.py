"""Releasing, needs and unloading: point 22, and point 3 (h)."""

import unittest

from lateclasses.classes import ClassText
from lateclasses.errors import NameTaken, UnknownLoader
from lateclasses.judge import first_wrong
from lateclasses.machine import Machine
from lateclasses.unloading import needed_by, removable
from tests.builders import failure, machine
from tests.test_random_machine import do, played, shown


class TestRelease(unittest.TestCase):
    def test_release(self):
        one = machine("loader base", "loader shop base")
        self.assertEqual(one.released, ())
        self.assertIsNone(one.release(loader="shop"))
        one.release("base")
        self.assertEqual(one.released, ("base", "shop"))
        self.assertEqual(one.journal()[2:], [(("release", "shop"),), (("release", "base"),)])
        before = shown(one)
        one.release("base")
        self.assertEqual(shown(one), before)

    def test_a_released_loader_can_be_used(self):
        one = machine("loader base")
        one.release("base")
        one.add_class("base", ClassText("item"))
        one.add_loader("shop", rest="base")
        self.assertEqual(one.load("shop", "item"), ("base", "item"))

    def test_errors(self):
        one = machine("loader base")
        for given in (None, "none", [], 0, ("base",)):
            for call in (one.release, lambda loader: needed_by(one, loader)):
                with self.assertRaises(UnknownLoader) as caught:
                    call(given)
                self.assertEqual(caught.exception.given, given)


class TestNeeds(unittest.TestCase):
    def test_asks_and_rests(self):
        one = machine("loader base", "loader lib", "loader shop base", "loader desk lib", "ask desk item base")
        self.assertEqual([needed_by(one, loader) for loader in one.loaders], [["shop", "desk"], ["desk"], [], []])
        self.assertEqual(needed_by(machine=one, loader="base"), ["shop", "desk"])

    def test_classes_of_bound_names(self):
        one = machine("loader base", "loader lib base", "loader shop lib", "class base item top")
        self.assertEqual(needed_by(one, "base"), ["lib"])
        one.bind("shop", "item")
        self.assertEqual(needed_by(one, "base"), ["lib", "shop"])

    def test_a_loader_does_not_need_itself(self):
        one = machine("loader base", "class base item top")
        one.load("base", "item")
        self.assertEqual(needed_by(one, "base"), [])

    def joined(self):
        """shop and base are joined for pen; base assumes that pen lies below item."""
        return machine("loader base", "class base box top;field held pen",
                       "class base user top;method m 2 item pen;return 1;end", "loader shop base", "ask shop box base",
                       "class shop user top;method m 3 top;null 1;get 2 1 box held pen;return 0;end",
                       "class base item top", "class base pen item")

    def test_open_assumptions_of_joined_loaders(self):
        one = self.joined()
        one.load("shop", "user")
        one.check(("shop", "user"), "m")
        one.load("shop", "box")
        one.load("base", "user")
        self.assertEqual(needed_by(one, "shop"), [])
        # base has no open assumption; shop needs it because it asks it. The other way round:
        one.check(("base", "user"), "m")
        self.assertEqual(one.list_assumptions()[-1][:3], ("base", "pen", "item"))
        self.assertEqual(needed_by(one, "base"), ["shop"])
        other = machine("loader base", "class base box top;field held pen", "loader shop base", "ask shop box base",
                        "class shop user top;method m 3 item;null 1;get 2 1 box held pen;return 2;end", "class base item top",
                        "class base pen item")
        other.load("shop", "user")
        other.check(("shop", "user"), "m")
        self.assertEqual(needed_by(other, "shop"), [])
        other.load("shop", "box")
        # Joined now: base needs shop as long as its assumption is open.
        self.assertEqual(needed_by(other, "shop"), ["base"])
        other.release("shop")
        self.assertEqual(other.unload(), [])
        other.load("base", "pen")
        self.assertEqual(needed_by(other, "shop"), [])
        self.assertEqual(other.unload(), ["shop"])

    def test_kept_objects(self):
        one = machine("loader base", "loader shop base", "class base item top;field held top",
                      "class shop desk top;method obj 2 top;new 1 item;return 1;end;method arr 2 top;array 1 none 1;return 1;end"
                      ";method in 3 top;new 1 item;array 2 none 1;put 1 item held top 2;return 1;end"
                      ";method top 2 top;new 1 top;return 1;end")
        for method, kept in (("obj", False), ("arr", True), ("in", True), ("top", False)):
            twin = one.copy()
            twin.run("shop", "desk", method, keep="x")
            twin.release("shop")
            self.assertEqual(removable(twin), [] if kept else ["shop"], method)
            twin.release("base")
            self.assertEqual(removable(twin), [] if kept else (["shop"] if method == "obj" else ["base", "shop"]), method)
            # shop goes, base stays as long as the object is kept.
            twin.forget("x") if kept or method != "obj" else None
            self.assertEqual(removable(twin), ["shop"] if method == "obj" else ["base", "shop"])


class TestUnload(unittest.TestCase):
    def test_nothing(self):
        one = machine("loader base")
        before = shown(one)
        self.assertEqual((one.unload(), removable(machine=one)), ([], []))
        self.assertEqual(shown(one), before)
        self.assertEqual(one.calls()[-1], ("unload", (), ()))

    def test_groups_that_need_each_other(self):
        one = machine("loader base", "class base item top", "loader shop base", "class shop box top;field held pen",
                      "loader desk shop",
                      "class desk user top;method m 3 item;null 1;get 2 1 box held pen;return 2;end")
        one.load("desk", "user")
        one.check(("desk", "user"), "m")
        one.load("desk", "box")
        # desk needs shop (its rest), shop needs desk (its assumption about pen).
        self.assertEqual([needed_by(one, "desk"), needed_by(one, "shop")], [["shop"], ["desk"]])
        one.release("desk")
        self.assertEqual(removable(one), [])
        one.release("shop")
        self.assertEqual(one.unload(), ["shop", "desk"])
        self.assertEqual((one.loaders, one.list_loaded(), one.list_equations(), one.list_assumptions()), (("base",), [], [], []))

    def test_what_goes_and_what_stays(self):
        one = machine("loader base", "class base item top", "loader shop base", "class shop book item;method m 1 item;return 0;end")
        one.load("shop", "book")
        one.check(("shop", "book"), "m")
        one.take_down("shop")
        one.release("shop")
        self.assertEqual(one.unload(), ["shop"])
        self.assertEqual((one.loaders, one.released, one.down), (("base",), (), ()))
        self.assertEqual((one.list_loaded(), one.reason(("base", "item"))),
                         ([("base", "item")], ("above", ("shop", "book"))))
        self.assertEqual((one.table(("shop", "book"), "m"), one.list_assumptions()), (None, []))
        self.assertEqual(one.journal()[-1], (("unload", ("shop",), ()),))
        for call in (lambda: one.load("shop", "book"), lambda: one.meaning("shop", "item"), lambda: one.release("shop")):
            with self.assertRaises(UnknownLoader):
                call()

    def test_names_of_removed_loaders(self):
        one = machine("loader base", "loader shop base")
        one.release("shop")
        one.unload()
        with self.assertRaises(NameTaken) as caught:
            one.add_loader("shop", rest="none")
        self.assertEqual(caught.exception.given, "shop")
        with self.assertRaises(UnknownLoader):
            one.add_loader("desk", rest="shop")
        self.assertEqual(one.copy().loaders, ("base",))
        with self.assertRaises(NameTaken):
            one.copy().add_loader("shop")
        # There is room for others: eight at a time.
        for name in "abcdefg":
            one.add_loader(name)
        self.assertEqual(len(one.loaders), 8)

    def test_fixed_names_stay_fixed(self):
        one = machine("loader base", "loader shop base", "loader lib", "class lib item top", "loader desk shop")
        failure(one.bind, "desk", "item")
        one.add_class("base", ClassText("item"))
        one.bind("desk", "item")
        one.release("desk")
        self.assertEqual(one.unload(), ["desk"])
        with self.assertRaises(Exception) as caught:
            one.add_class("shop", ClassText("item"))
        self.assertEqual(type(caught.exception).__name__, "NameFixed")

    def test_runs_go_on(self):
        one = machine("loader base", "class base item top;method m 1 item;tell 0;return 0;end", "loader shop base",
                      "class shop desk top;method m 2 item;new 1 item;call 1 1 item m - item -;return 1;end")
        one.run("shop", "desk", "m", keep="i")
        one.release("shop")
        self.assertEqual(one.unload(), ["shop"])
        self.assertEqual(one.run("base", "item", "m").told, ["item@base"])
        self.assertEqual(one.keeps(), {"i": "item@base"})


class TestGone(unittest.TestCase):
    """Loaders that are joined only by one that is removed."""

    BOXES = ("loader one", "loader two", "loader six", "class one abox top;field held pen;field more ink",
             "class two bbox top;field held pen;field more ink", "class six cbox top;field held pen")

    def made(self, *more):
        one = machine(*self.BOXES, "loader mid", "ask mid abox one", "ask mid bbox two", "ask mid cbox six", *more)
        one.load("mid", "user")
        one.check(("mid", "user"), "m")
        for name in ("abox", "bbox", "cbox"):
            one.load("mid", name)
        return one

    def user(self, *uses):
        code = ";".join(f"null 1;get 2 1 {box} {field} {kind}" for box, field, kind in uses)
        return f"class mid user top;method m 3 top;{code};return 0;end"

    def test_they_stay_joined(self):
        one = self.made(self.user(("cbox", "held", "pen"), ("bbox", "held", "pen"), ("abox", "more", "ink"),
                                  ("bbox", "more", "ink"), ("abox", "held", "pen")))
        one.release("mid")
        self.assertEqual(one.unload(), ["mid"])
        gone = [("ink", "one", "two", ("gone",)), ("pen", "one", "two", ("gone",)), ("pen", "one", "six", ("gone",))]
        self.assertEqual(one.list_equations(), gone)
        self.assertEqual(one.journal()[-1], (("unload", ("mid",), tuple(gone)),))
        self.assertIsNone(first_wrong(one.journal()))
        one.add_class("six", ClassText("pen"))
        self.assertEqual(one.bind("two", "pen"), ("six", "pen"))
        self.assertEqual(one.meaning("one", "pen"), ("six", "pen"))

    def test_only_where_something_would_be_parted(self):
        # two and six are joined by an equation of their own.
        one = machine(*self.BOXES, "ask six bbox two", "class six user top;method m 3 top;null 1;get 2 1 bbox held pen;return 0;end",
                      "loader mid", "ask mid abox one", "ask mid bbox two", "ask mid cbox six",
                      self.user(("cbox", "held", "pen"), ("bbox", "held", "pen"), ("abox", "held", "pen")))
        one.load("six", "user")
        one.check(("six", "user"), "m")
        one.load("six", "bbox")
        one.load("mid", "user")
        one.check(("mid", "user"), "m")
        for name in ("cbox", "bbox", "abox"):
            one.load("mid", name)
        own = ("pen", "six", "two", ("six", "user", "m", 1))
        self.assertEqual(one.list_equations()[0], own)
        one.release("mid")
        one.unload()
        self.assertEqual(one.list_equations(), [own, ("pen", "one", "two", ("gone",))])
        self.assertIsNone(first_wrong(one.journal()))

    def test_two_groups_of_one_name(self):
        lines = []
        for index, (low, high) in enumerate((("one", "two"), ("six", "ten"))):
            lines += [f"loader {low}", f"loader {high}", f"class {low} abox top;field held pen",
                      f"class {high} bbox top;field held pen"]
        for index, (low, high) in enumerate((("one", "two"), ("six", "ten"))):
            mid = ("mida", "midb")[index]
            lines += [f"loader {mid}", f"ask {mid} abox {low}", f"ask {mid} bbox {high}",
                      f"class {mid} user top;method m 3 top;null 1;get 2 1 abox held pen;null 1;get 2 1 bbox held pen;return 0;end"]
        one = machine(*lines)
        for mid in ("midb", "mida"):
            one.load(mid, "user")
            one.check((mid, "user"), "m")
            one.load(mid, "bbox")
            one.load(mid, "abox")
            one.release(mid)
        self.assertEqual(one.unload(), ["mida", "midb"])
        self.assertEqual(one.list_equations(), [("pen", "one", "two", ("gone",)), ("pen", "six", "ten", ("gone",))])

    def test_bound_names(self):
        one = self.made(self.user(("abox", "held", "pen"), ("bbox", "held", "pen")), "class two pen top")
        one.bind("one", "pen")
        one.release("mid")
        one.unload()
        self.assertEqual([one.meaning(loader, "pen") for loader in one.loaders], [("two", "pen"), ("two", "pen"), None])
        self.assertEqual(needed_by(one, "two"), ["one"])

    def test_unloading_again(self):
        one = self.made(self.user(("abox", "held", "pen"), ("bbox", "held", "pen"), ("cbox", "held", "pen")))
        one.release("mid")
        one.unload()
        one.release("one")
        self.assertEqual(one.unload(), ["one"])
        self.assertEqual(one.list_equations(), [("pen", "two", "six", ("gone",))])
        self.assertIsNone(first_wrong(one.journal()))

    def test_with_random_machines(self):
        """After a removal the others are joined as before."""
        removed = gone = 0
        for seed in range(4000, 4400):
            for one, _, name, given in played(seed):
                do(one, name, given)
            for loader in one.loaders[::-1]:
                if loader not in one.loaders:
                    continue
                one.release(loader)
                before = self.groups(one)
                names = one.unload()
                removed += len(names)
                after = self.groups(one)
                for word in before:
                    for group in before[word]:
                        left = [each for each in group if each not in names]
                        self.assertEqual(len([each for each in after.get(word, []) if set(left) & set(each)]), bool(left[1:]))
                gone += sum(equation[3] == ("gone",) for equation in one.list_equations())
            self.assertIsNone(first_wrong(one.journal()))
        self.assertGreater(removed, 300)
        self.assertGreater(gone, 3)

    def groups(self, one):
        """By name: the groups of joined loaders of more than one."""
        found = {}
        for word, low, high, _ in one.list_equations():
            groups = found.setdefault(word, [])
            both = [group for group in groups if low in group or high in group]
            found[word] = [group for group in groups if group not in both] + [sorted({low, high}.union(*both))]
        return found


class TestRemovable(unittest.TestCase):
    def test_nothing_changes(self):
        one = machine("loader base", "loader shop base")
        one.release("base")
        one.release("shop")
        before = shown(one), one.calls()
        self.assertEqual(removable(one), ["base", "shop"])
        removable(one).clear()
        self.assertEqual((shown(one), one.calls()), before)
        self.assertEqual(removable(Machine()), [])


if __name__ == "__main__":
    unittest.main()
