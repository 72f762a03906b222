"""The greatest sizes that the document allows, and one more where it says that this is refused."""

import unittest

from lateclasses.classes import ClassText
from lateclasses.codes import Method
from lateclasses.console import Console
from lateclasses.eager import EagerMachine, compared
from lateclasses.errors import ClassError, InvalidClass, InvalidMethod, LimitExceeded
from lateclasses.formats import format_class, parse_class
from lateclasses.journal import format_journal, parse_journal, recovered, restored
from lateclasses.judge import first_wrong
from lateclasses.machine import Machine
from lateclasses.questions import joined, open_assumptions, what_fails, what_if, why
from lateclasses.reach import is_reach, reach
from lateclasses.tables import Tables
from lateclasses.unloading import needed_by, removable
from tests.builders import machine

LOADERS = ["one", "two", "three", "four", "five", "six", "seven", "eight"]


def name_of(number):
    return "c" + chr(97 + number // 26) + chr(97 + number % 26)


def fill(target, text_of):
    """Eight loaders of forty classes each, all in one chain; text_of makes a text of (number, name, above)."""
    above = "top"
    for index, loader in enumerate(LOADERS):
        target.add_loader(loader, rest=LOADERS[index - 1] if index else None)
        for number in range(40 * index, 40 * index + 40):
            target.add_class(loader, text_of(number, name_of(number), above))
            above = name_of(number)
    return target


def plain_text(number, name, above):
    method = Method("m", (), "top", 10, [("null", 9)] * 38 + [("tell", 0), ("return", 0)])
    return ClassText(name, above=above, fields=[("f" + name, name)], methods=[method])


class TestChains(unittest.TestCase):
    def test_forty_classes_in_each_of_eight_loaders(self):
        for kind in (Machine, EagerMachine):
            one = fill(kind(), plain_text)
            self.assertEqual(one.load("eight", name_of(319)), ("eight", name_of(319)))
            self.assertEqual(len(one), 320)
            lowest = one[("eight", name_of(319))]
            self.assertEqual((len(lowest), lowest.chain[-2]), (321, ("one", "caa")))
            self.assertEqual(len(why(one, ("one", "caa"))), 320)
            report = one.run("eight", name_of(319), "m", limit=2000)
            self.assertEqual((report.ending, report.steps, report.told), (("returned", "cmh@eight"), 40, ["cmh@eight"]))
            self.assertIsNone(first_wrong(one.journal()))
            text = format_journal(one.journal())
            self.assertEqual(parse_journal(text), one.journal())
            two = restored(recovered(text))
            self.assertTrue(one == two)
            self.assertEqual(len(one.copy()), 320)
            self.assertEqual(two.run("eight", name_of(319), "m").parts(), report.parts())
        with self.assertRaises(LimitExceeded) as caught:
            one.add_loader("nine")
        self.assertEqual(caught.exception.limit, 8)
        with self.assertRaises(LimitExceeded) as caught:
            one.add_class("eight", ClassText("more"))
        self.assertEqual(caught.exception.limit, 40)

    def test_a_circle_at_the_end(self):
        one = fill(Machine(), lambda number, name, above: ClassText(name, above=above if number else name))
        found = what_fails(one, "eight", name_of(319))
        self.assertEqual((found[0], found[1], len(found[2])), ("Shape", (("one", "caa"), ("circle",)), 321))
        one.take_down("one")
        found = what_fails(one, "eight", name_of(319))
        self.assertEqual((found[0], len(found[2])), ("Down", 281))

    def test_the_reach(self):
        given = fill(Tables(), lambda number, name, above: ClassText(name, above=above, methods=[
            Method("m", (), "top", 10, [("new", 1, name)] * 20 + [("call", 2, 1, name, "m", (), "top", ())] * 19 + [("return", 0)])]))
        found = reach(given, "eight", name_of(319), "m")
        self.assertEqual(len(found), 321)
        self.assertTrue(is_reach(given, "eight", name_of(319), "m", found))
        self.assertFalse(is_reach(given, "eight", name_of(319), "m", found[:-1]))

    def test_all_at_once(self):
        """Eight methods in each class, each with forty instructions, of which many are uses."""
        def text_of(number, name, above):
            code = [("new", 1, name)] + [("ask", 2, 0, "caa", "ma", (), "top", ()), ("call", 2, 0, name, "mb", (), "top", ()),
                                         ("get", 3, 0, name, "f" + name, name), ("ifis", 0, name, 39)] * 9
            code = (code + [("null", 5)] * 40)[:39] + [("return", 1)]
            return ClassText(name, above=above, marks=["caa"] if number else [], fields=[("f" + name, name)],
                             methods=[Method("m" + sign, (), "top", 10, code) for sign in "abcdefgh"])
        one = fill(EagerMachine(), text_of)
        one.load("eight", name_of(319))
        self.assertEqual(len([entry for entry in one.journal()[-1] if entry[0] == "check"]), 2560)
        self.assertIsNone(first_wrong(one.journal()))


class TestRuns(unittest.TestCase):
    def test_two_thousand_instructions(self):
        one = machine("loader shop", "class shop desk top;field next desk;method m 2 top;new 1 desk"
                      ";put 1 desk next desk 0;move 0 1;tell 0;choose 0;return 0;end")
        report = one.run("shop", "desk", "m", (), [True] * 5000, limit=2000, keep="long")
        self.assertEqual((report.ending, report.steps, len(report.told)), (("stopped",), 2000, 400))
        report = one.run("shop", "desk", "m", (), [True] * 399 + [False], limit=2000, keep="long")
        self.assertEqual(report.ending, ("stopped",))
        report = one.run("shop", "desk", "m", (), [True] * 398 + [False], limit=2000, keep="long")
        self.assertEqual((report.ending, report.steps), (("returned", "desk@shop"), 1996))
        self.assertEqual((one.copy().keeps(), removable(one)), ({"long": "desk@shop"}, []))
        self.assertEqual(len(list(one.watch("shop", "desk", "m", (), [True] * 2000, limit=2000))), 2000)
        with self.assertRaises(ClassError):
            one.run("shop", "desk", "m", limit=2001)

    def test_each_instruction_loads(self):
        one = machine("loader shop")
        for number in range(39):
            code = [("new", 1, name_of(number + 1)), ("tell", 1), ("return", 1)]
            one.add_class("shop", ClassText(name_of(number), methods=[Method("m", (), "top", 10, code)]))
        code = [("new", 9, name_of(number)) for number in range(39)] + [("return", 9)]
        one.add_class("shop", ClassText("desk", methods=[Method("m", (), "top", 10, code)]))
        report = one.run("shop", "desk", "m")
        self.assertEqual((len(report.loads), report.steps), (40, 40))
        self.assertEqual(len(one.journal()), 1 + 40 + 40)

    def test_arrays_of_nine(self):
        code = "array 1 desk 9;" + "".join(f"store 1 {index} 0;load 2 1 {index};tell 2;" for index in range(9)) + "return 1"
        one = machine("loader shop", f"class shop desk top;method m 10 desk[];{code};end")
        self.assertEqual(one.run("shop", "desk", "m").told, ["desk@shop"] * 9)
        with self.assertRaises(ClassError):
            parse_class("class desk top\nmethod m 2 top\narray 1 desk 10\nreturn 1\nend")

    def test_four_parameters_and_ten_registers(self):
        one = machine("loader shop", "class shop desk top;method m 10 top top top top top;tell 4;return 0;end"
                      ";method n 10 top;call 9 0 desk m top,top,top,top top 0,0,0,0;return 9;end")
        self.assertEqual(one.run("shop", "desk", "n").told, ["desk@shop"])
        self.assertEqual(one.run("shop", "desk", "m", [None] * 4).told, ["null"])


class TestTexts(unittest.TestCase):
    def test_the_largest_class(self):
        code = [("call", 9, 0, "abcdefgh", "abcdefgh", ("abcdefgh[]",) * 4, "abcdefgh[]", (9, 9, 9, 9))] * 39 + [("return", 0)]
        methods = [Method("abcdefg" + sign, ("abcdefgh[]",) * 4, "abcdefgh[]", 10, code) for sign in "abcdefgh"]
        text = ClassText("abcdefgh", above="abcdefgi", marks=["mark" + sign for sign in "abcdefgh"],
                         fields=[("field" + sign, "abcdefgh[]") for sign in "abcdefgh"], methods=methods)
        self.assertTrue(parse_class(format_class(text)) == text)
        console = Console()
        console.execute("loader shop")
        self.assertEqual(console.execute("class shop " + format_class(text).replace("\n", ";")), "ok")
        with self.assertRaises(InvalidMethod):
            Method("m", (), "top", 10, code + code[:1])
        with self.assertRaises(InvalidMethod):
            Method("m", (), "top", 11, [("return", 0)])
        with self.assertRaises(InvalidMethod):
            Method("m", ("top",) * 5, "top", 10, [("return", 0)])
        for more in ({"marks": text.marks + ("more",)}, {"fields": text.fields + (("more", "top"),)},
                     {"methods": text.methods + (Method("more", (), "top", 1, [("return", 0)]),)}):
            with self.assertRaises(InvalidClass):
                ClassText("item", **more)


class TestJoined(unittest.TestCase):
    def test_eight_loaders_in_a_row(self):
        lines = []
        for index, loader in enumerate(LOADERS):
            lines += [f"loader {loader}", f"class {loader} box{loader[0]}{loader[1]} top;field held item"]
            if index:
                before = LOADERS[index - 1]
                box = f"box{before[0]}{before[1]}"
                lines += [f"ask {loader} {box} {before}",
                          f"class {loader} user top;method m 3 item;null 1;get 2 1 {box} held item;return 2;end"]
        one = machine(*lines, "class one item top")
        for loader, before in zip(LOADERS[1:], LOADERS):
            one.load(loader, "user")
            one.check((loader, "user"), "m")
            one.load(loader, f"box{before[0]}{before[1]}")
        self.assertEqual(len(joined(one, "item", "one", "eight")), 7)
        one.bind("eight", "item")
        self.assertEqual([one.meaning(loader, "item") for loader in LOADERS], [("one", "item")] * 8)
        self.assertEqual(needed_by(one, "one"), LOADERS[1:])
        for loader in LOADERS[1:-1]:
            one.release(loader)
        self.assertEqual(one.unload(), [])
        self.assertEqual((open_assumptions(one), one.list_assumptions()), ([], []))
        one.release("eight")
        self.assertEqual(one.unload(), LOADERS[1:])

    def test_many_calls(self):
        one = machine("loader shop", "class shop desk top;method m 1 top;return 0;end")
        for _ in range(300):
            one.run("shop", "desk", "m", keep="one")
        self.assertEqual(len(one.calls()), 302)
        self.assertEqual([index for index, _, _ in what_if(one, "shop", parse_class("class desk none"))], list(range(2, 302)))
        self.assertTrue(compared(one, "shop", "desk", "m").agrees)


if __name__ == "__main__":
    unittest.main()
