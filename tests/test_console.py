"""The console: point 27."""

import random
import unittest

from lateclasses.classes import ClassText
from lateclasses.console import Console
from lateclasses.errors import ClassError, InvalidCommand, NotLoaded
from lateclasses.formats import format_class
from lateclasses.machine import Machine
from lateclasses.questions import open_assumptions, why
from tests import programs
from tests.samples import no_texts
from tests.test_random_machine import do, played

LINES = ("loader base", "loader shop base", "class base class item top;method show 1 item;tell 0;return 0;end",
         "class base class book item", "class shop class desk top;method m 3 item item;choose 3;new 2 item;return 2"
         ";new 2 book;tell 2;tell 1;return 2;end")


def made(*more):
    console = Console()
    for line in LINES + more:
        assert console.execute(line) is not None
    return console


class TestAnswers(unittest.TestCase):
    def test_ok(self):
        console = Console()
        for line in LINES + ("ask shop item base", "release shop", "release shop"):
            self.assertEqual(console.execute(line=line), "ok")

    def test_load_and_loaded(self):
        console = made()
        self.assertEqual(console.execute("loaded"), "-")
        self.assertEqual(console.execute("load shop book"), "book@base")
        self.assertEqual(console.execute("loaded"), "item@base book@base")
        self.assertEqual(console.execute("load shop top"), "top@")

    def test_run(self):
        console = made()
        self.assertEqual(console.execute("run shop desk m 0 9 null"), "returned item@base")
        self.assertEqual(console.execute("run shop desk m 1 9 null keep"), "book@base; null; returned book@base")
        self.assertEqual(console.execute("run shop desk m 1 9 keep"), "book@base; book@base; returned book@base")
        self.assertEqual(console.execute("run shop desk m - 9 null"), "starved")
        self.assertEqual(console.execute("run shop desk m 1 3 null"), "book@base; stopped")
        self.assertEqual(console.execute("run shop desk m - 0 null"), "stopped")
        self.assertEqual(console.execute("run shop desk m - 2000 -"), "failed Value")
        self.assertEqual(console.execute("run shop desk none 01 2000 null,null"), "failed NoEntry")
        self.assertEqual(console.execute("run base item show - 5 -"), "item@base; returned item@base")

    def test_failures_with_a_place(self):
        console = made("class shop class box top;method m 2 top;tell 0;null 1;get 1 1 box f item;return 1;end")
        self.assertEqual(console.execute("run shop box m - 9 -"), "box@shop; failed Null at shop box m 2")
        self.assertEqual(console.execute("run shop none m - 9 -"), "failed NoClass")

    def test_null_always_means_null(self):
        console = made()
        self.assertEqual(console.execute("run shop desk m 1 9 null null"), "book@base; null; returned book@base")
        self.assertEqual(console.execute("run shop desk m 1 9 null"), "book@base; null; returned book@base")

    def test_unload(self):
        console = made("release shop")
        self.assertEqual(console.execute("unload"), "shop")
        self.assertEqual(console.execute("unload"), "-")
        console = made("release base", "release shop")
        self.assertEqual(console.execute("unload"), "base shop")

    def test_why(self):
        console = made()
        console.execute("load shop book")
        self.assertEqual(console.execute("why base item"), "item@base < book@base asked")
        self.assertEqual(console.execute("why shop book"), "book@base asked")
        console.execute("run shop desk m 0 9 null")
        self.assertEqual(console.execute("why shop desk"), "desk@shop run")
        for line, stored in (("why shop none", None), ("why shop top", ("", "top")), ("why base desk", None)):
            with self.assertRaises(NotLoaded) as caught:
                console.execute(line)
            self.assertEqual(caught.exception.given, stored)

    def test_why_new(self):
        console = made()
        console.execute("run shop desk m 1 9 null")
        self.assertEqual(console.execute("why shop item"), "item@base < book@base new")

    def test_open(self):
        console = made()
        self.assertEqual(console.execute("open"), "-")
        console.execute("class shop class rack top;method m 3 item;new 1 pen;new 2 ink;choose 4;return 1;return 2;end")
        console.execute("run shop rack m - 0 -")
        self.assertEqual(console.execute("open"), "shop pen item; shop ink item")

    def test_consoles_are_independent(self):
        one, two = Console(), Console()
        one.execute("loader base")
        with self.assertRaises(ClassError):
            two.execute("release base")


class TestErrors(unittest.TestCase):
    def raises(self, console, line, name, **stored):
        with self.assertRaises(ClassError) as caught:
            console.execute(line)
        self.assertEqual((type(caught.exception).__name__, vars(caught.exception)), (name, stored), line)

    def test_those_of_the_machine(self):
        console = made()
        self.raises(console, "loader base", "NameTaken", given="base")
        self.raises(console, "loader new none", "UnknownLoader", given="none")
        self.raises(console, "class none class pen top", "UnknownLoader", given="none")
        self.raises(console, "class base class item top", "NameTaken", given="item")
        self.raises(console, "ask shop top base", "InvalidName", given="top")
        self.raises(console, "ask base pen shop", "UnknownLoader", given="shop")
        self.raises(console, "release none", "UnknownLoader", given="none")
        self.raises(console, "why none item", "UnknownLoader", given="none")
        self.raises(console, "load shop pen", "Failing", failure=("NoClass", ("shop", "pen"), (("bind", "shop", "pen"),)))
        self.raises(console, "run none desk m - 5 -", "UnknownLoader", given="none")
        with self.assertRaises(ClassError) as caught:
            console.execute("run shop desk m - 5 none")
        self.assertEqual((type(caught.exception).__name__, list(caught.exception.given)), ("InvalidValues", ["none"]))

    def test_those_of_the_text(self):
        console = made()
        # parse_class comes ahead of the machine.
        self.raises(console, "class none class pen top;method m 0 top;return 0;end", "InvalidMethod", given=0)
        self.raises(console, "class none class top top", "InvalidClass", given="top")
        self.raises(console, "class shop class pen top;mark sold;mark sold", "InvalidClass", given=("sold", "sold"))
        for written in ("class pen", "class pen top;", ";class pen top", "class pen top;mark Sold", "pen top", "", " ",
                        "class pen top mark sold", "class pen  top", " class pen top", "class pen top "):
            line = "class shop " + written
            self.raises(console, line, "InvalidCommand", given=line)

    def test_no_commands(self):
        console = made()
        before = console.execute("loaded")
        for line in no_texts() + [
                "", " ", "none", "loader", "loader ", "loader Base", "loader a b c", "loader  new", " loader new", "loader new ",
                "loader new none ", "loader new -", "loader\tnew", "loader new\n", "\nloader new", "loader new\nloader other",
                "Loader new", "loader abcdefghi", "class", "class shop", "class shop class pen top\nmark item", "class shop class pen top\n", "class Shop class pen top", "class  shop class pen top",
                "ask shop item", "ask shop item base base", "ask shop Item base", "ask Shop item base", "ask shop item -",
                "release", "release shop shop", "release Shop", "release -", "load shop", "load shop item item", "load shop 0",
                "load Shop item", "unload shop", "unload ", "loaded x", "loaded ", " loaded", "why shop", "why shop item item",
                "why shop Item", "why Shop item", "load Shop item", "why -", "open x", "open ", "run shop desk m - 5", "run shop desk m - 5 - keep more",
                "run Shop desk m - 5 -", "run shop Desk m - 5 -", "run shop desk M - 5 -", "run shop desk m 2 5 -",
                "run shop desk m  5 -", "run shop desk m 0,1 5 -", "run shop desk m 0- 5 -", "run shop desk m -- 5 -",
                "run shop desk m x 5 -", "run shop desk m - 05 -", "run shop desk m - 00 -", "run shop desk m - -5 -",
                "run shop desk m - +5 -", "run shop desk m - 2001 -", "run shop desk m - 5.0 -", "run shop desk m - x -",
                "run shop desk m -  -", "run shop desk m - 5 ", "run shop desk m - 5 a,", "run shop desk m - 5 ,a",
                "run shop desk m - 5 a,,b", "run shop desk m - 5 A", "run shop desk m - 5 a;b", "run shop desk m - 5 -,-",
                "run shop desk m - 5 a,-", "run shop desk m - 5 null,", "run shop desk m - 5 - Keep", "run shop desk m - 5 - -",
                "run shop desk m - 5 - ", "run shop desk m - " + "9" * 40 + " -", "run shop desk m - " + "9" * 5000 + " -"]:
            with self.assertRaises(InvalidCommand) as caught:
                console.execute(line)
            self.assertIs(caught.exception.given, line)
        self.assertEqual(console.execute("loaded"), before)
        self.assertEqual(console.execute("run shop desk m - 2000 null"), "starved")


def identity(pair):
    return f"{pair[1]}@{pair[0]}"


def answer(name, given, result):
    """What a console answers when a machine returns this."""
    if name == "load":
        return identity(result)
    if name == "unload":
        return " ".join(result) or "-"
    if name != "run":
        return "ok"
    told, ending = result[0], result[1]
    words = [*told, ending[0]]
    if ending[0] == "returned":
        words[-1] += " " + ending[1]
    if ending[0] == "failed":
        words[-1] += " " + ending[1][0]
        if ending[2] is not None:
            words[-1] += " at " + " ".join(map(str, ending[2]))
    return "; ".join(words)


def command(name, given):
    """The line of a call, None if there is none."""
    if name == "add_loader":
        return "loader " + " ".join(word for word in given if word is not None)
    if name == "add_class":
        return f"class {given[0]} " + format_class(given[1]).replace("\n", ";")
    if name in ("ask", "release", "load"):
        return " ".join([name, *given])
    if name == "unload":
        return name
    if name != "run":
        return None
    loader, word, method, values, choices, limit, keep = given
    words = [name, loader, word, method, "".join("01"[choice] for choice in choices) or "-", str(limit),
             ",".join(value or "null" for value in values) or "-"]
    return " ".join(words + [keep] if keep is not None else words)


class TestBesideAMachine(unittest.TestCase):
    def do_both(self, console, one, name, given):
        line = command(name, given)
        if line is None:
            return
        outcome = do(one, name, given)
        try:
            told = console.execute(line)
        except ClassError as error:
            self.assertNotIsInstance(error, InvalidCommand)
            self.assertEqual(outcome, ("error", type(error)) if not hasattr(error, "failure") else ("failure", error.failure))
        else:
            self.assertEqual(outcome[0], "result")
            self.assertEqual(told, answer(name, given, outcome[1]))

    def hold(self, console, one):
        self.assertEqual(console.execute("loaded"), " ".join(map(identity, one.list_loaded())) or "-")
        self.assertEqual(console.execute("open"), "; ".join(map(" ".join, open_assumptions(one))) or "-")
        for loader in one.loaders:
            for name in programs.NAMES:
                if one.meaning(loader, name) in one:
                    found = why(one, one.meaning(loader, name))
                    self.assertEqual(console.execute(f"why {loader} {name}"),
                                     " < ".join(identity(pair) for pair, _ in found) + " " + found[-1][1][0])

    def test_random_commands(self):
        for seed in range(8000, 8150):
            rng = random.Random(seed)
            console, one = Console(), Machine()
            for other, _, name, given in played(seed):
                do(other, name, given)
                self.do_both(console, one, name, given)
                if rng.random() < 0.2:
                    self.refuse(rng, console, command(name, given))
                if rng.random() < 0.2:
                    self.hold(console, one)
            self.hold(console, one)

    def refuse(self, rng, console, line):
        """A line that is bent so that it is no command changes nothing."""
        if line is None:
            return
        words = line.split(" ")
        at = rng.randrange(len(words))
        bent = rng.choice(([*words[:at], "", *words[at:]], [*words[:at], words[at].upper() + "#", *words[at + 1:]],
                           [*words, ""], ["", *words], ["x" + words[0], *words[1:]]))
        before = console.execute("loaded"), console.execute("open")
        with self.assertRaises(InvalidCommand):
            console.execute(" ".join(bent))
        self.assertEqual((console.execute("loaded"), console.execute("open")), before)

    def test_class_texts(self):
        console = Console()
        console.execute("loader shop")
        self.assertEqual(console.execute("class shop " + format_class(ClassText("item")).replace("\n", ";")), "ok")
        self.assertEqual(console.execute("load shop item"), "item@shop")


if __name__ == "__main__":
    unittest.main()
