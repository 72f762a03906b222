"""Journals in lines, damaged texts, and restored machines: point 24."""

import random
import re
import unittest

from lateclasses.eager import EagerMachine
from lateclasses.errors import InvalidJournal, ParseError
from lateclasses.journal import format_journal, parse_journal, recovered, restored
from lateclasses.judge import first_wrong
from lateclasses.machine import Machine
from tests import programs
from tests.builders import machine
from tests.samples import no_texts
from tests.test_judge import journals
from tests.test_random_machine import do, played, shown


def written(value):
    """A value as the document writes it."""
    if value is None:
        return "-"
    if isinstance(value, tuple):
        return "(" + " ".join(map(written, value)) + ")"
    return str(value) if isinstance(value, int) else "'" + value.replace("\n", ";") + "'"


def line_of(number, change):
    text = f"{number} {change}"
    check = 7
    for sign in text:
        check = (check * 131 + ord(sign)) % 1000003
    return f"{number} {check} {change}\n"


def text_of(journal):
    return "".join(line_of(number, written(change)) for number, change in enumerate(journal))


def deep(value):
    return 1 + max([deep(item) for item in value], default=0) if isinstance(value, tuple) else 0


def change_of(text):
    """The change that a text is, reckoned by trying Python's own reading; None if it is none."""
    parts = re.findall(r"'[^']*'|[()]|-|[0-9]+| |.", text)
    words = {"-": "None,", " ": "", "(": "(", ")": "),"}
    try:
        value = eval("".join(words.get(part, part + ",") for part in parts), {}, {})[0]
    except Exception:
        return None
    value = semicolons(value)
    if written(value) != text or deep(value) > 10 or not isinstance(value, tuple):
        return None
    return value if all(isinstance(entry, tuple) for entry in value) else None


def semicolons(value):
    if isinstance(value, tuple):
        return tuple(map(semicolons, value))
    return value.replace(";", "\n") if isinstance(value, str) else value


def whole(text):
    """The changes in the whole lines at the beginning, and whether that is all."""
    found = []
    for line in text.splitlines(keepends=True):
        parts = line.split(" ", 2)
        change = change_of(parts[2][:-1]) if len(parts) == 3 and line.endswith("\n") else None
        if change is None or line != line_of(len(found), written(change)):
            return found, False
        found.append(change)
    return found, True


class TestFormat(unittest.TestCase):
    def test_a_journal(self):
        one = machine("loader base", "loader shop base", "class base item top;field held item")
        one.load("shop", "item")
        self.assertEqual(format_journal(journal=one.journal()).split("\n"), [
            line_of(0, "(('loader' 'base' -))")[:-1], line_of(1, "(('loader' 'shop' 'base'))")[:-1],
            line_of(2, "(('class' 'base' 'class item top;field held item'))")[:-1],
            line_of(3, "(('bind' 'shop' 'item' ('base' 'item')) ('bind' 'base' 'item' ('base' 'item'))"
                       " ('load' ('base' 'item') ('asked')))")[:-1], ""])

    def test_a_check_number_by_hand(self):
        # 7, then the signs of "0 ()".
        check = 7
        for code in (48, 32, 40, 41):
            check = (check * 131 + code) % 1000003
        self.assertEqual(format_journal([()]), f"0 {check} ()\n")

    def test_values(self):
        journal = [(), ((),), (("a", 0, 12, None, (), (("b",), "")),), (("x\ny", 10 ** 29),)]
        self.assertEqual(format_journal(journal), text_of(journal))
        self.assertEqual([line.split(" ", 2)[2] for line in format_journal(journal).splitlines()],
                         ["()", "(())", "(('a' 0 12 - () (('b') '')))", f"(('x;y' {10 ** 29}))"])
        self.assertEqual(parse_journal(format_journal(journal)), journal)
        self.assertEqual((format_journal([]), parse_journal("")), ("", []))

    def test_depth(self):
        text, deeper = "(" * 10 + ")" * 10, "(" * 11 + ")" * 11
        self.assertEqual(parse_journal(line_of(0, text)), [((((((((((),),),),),),),),),)])
        with self.assertRaises(ParseError):
            parse_journal(line_of(0, deeper))
        self.assertEqual(parse_journal(line_of(0, text.replace("()", "(1)")))[0], ((((((((((1,),),),),),),),),),))
        for many in (100, 5000, 40000):
            with self.assertRaises(ParseError):
                parse_journal(line_of(0, "(" * many + ")" * many))

    def test_random_journals(self):
        for seed, journal in journals(range(5000, 5060)):
            text = format_journal(journal)
            self.assertEqual(text, text_of(journal))
            self.assertEqual(parse_journal(text), journal)
            self.assertEqual(recovered(text), journal)


class TestParse(unittest.TestCase):
    def test_no_texts(self):
        for given in no_texts():
            for call in (parse_journal, recovered):
                with self.assertRaises(ParseError) as caught:
                    call(given)
                self.assertIsNone(caught.exception.line)

    def test_changes_that_are_not_written_so(self):
        good = line_of(0, "()")
        for change in ("", "-", "'a'", "5", "(-)", "('a')", "(5)", "( )", "(() )", "( ())", "(()  ())", "(()())", "(()x())", "(('a'x'b'))", "((-x5))", "((5)x)", "(('a''b'))",
                       "((07))", "((-5))", "((+5))", "((5a))", "(('a))", "((a))", "((None))", "(()", "())", "()()", "() ",
                       " ()", "(('a',))", "((5 -))x", "((\"a\"))", "((5.0))", "((1_0))", "((" + "9" * 31 + "))", "((\u0665))"):
            with self.assertRaises(ParseError) as caught:
                parse_journal(good + line_of(1, change))
            self.assertEqual(caught.exception.line, 1, change)

    def test_numbers(self):
        good = format_journal([(), ((),)])
        first, second = good.splitlines(keepends=True)
        for text, line in ((second, 0), (first + first, 1), (first + second + first, 2), (second + first, 0), (first + "\n", 1),
                           ("\n" + first, 0), (first[:-1], 0), (first + second[:-1], 1), ("0" + first, 0), (" " + first, 0),
                           (first.replace(" ", "  ", 1), 0), (first[:-1] + " \n", 0), (first[:-1] + "\r\n", 0), ("x", 0), (" ", 0),
                           (first.replace(" ", " 0", 1), 0), (first + second + "x", 2)):
            with self.assertRaises(ParseError) as caught:
                parse_journal(text=text)
            self.assertEqual(caught.exception.line, line, text)

    def test_damaged_texts(self):
        rng = random.Random(3)
        broken = 0
        for seed, journal in journals(range(5000, 5060)):
            text = format_journal(journal)
            for _ in range(15):
                damaged = self.damaged(rng, text)
                found, complete = whole(damaged)
                wrong = first_wrong(found)
                self.assertEqual(recovered(damaged), found if wrong is None else found[:wrong])
                if complete:
                    self.assertEqual(parse_journal(damaged), found)
                else:
                    broken += 1
                    with self.assertRaises(ParseError) as caught:
                        parse_journal(damaged)
                    self.assertEqual(caught.exception.line, len(found))
        self.assertGreater(broken, 500)

    def damaged(self, rng, text):
        at = rng.randrange(len(text))
        kind = rng.randrange(6)
        if kind == 0:
            return text[:at] + rng.choice("0123456789abc'()- ;\n") + text[at + 1:]
        if kind == 1:
            return text[:at] + text[at + 1:]
        if kind == 2:
            return text[:at] + text[at] + text[at:]
        if kind == 3:
            return text[:at] + text[at + 1:at + 2] + text[at] + text[at + 2:]
        if kind == 4:
            return text[:at]
        return text + rng.choice((text, text.splitlines(keepends=True)[-1], "\n", "0 7 ()\n", line_of(text.count("\n"), "()")))

    def test_a_cut_anywhere(self):
        one = machine("loader shop", "class shop item top")
        one.load("shop", "item")
        text = format_journal(one.journal())
        ends = [0] + [at + 1 for at, sign in enumerate(text) if sign == "\n"]
        for at in range(len(text) + 1):
            self.assertEqual(len(recovered(text[:at])), len([end for end in ends if 0 < end <= at]))

    def test_whole_lines_that_are_not_accepted(self):
        one = machine("loader shop", "class shop item top")
        one.load("shop", "item")
        journal = one.journal()
        for bad in ((), (("loader", "shop", None),), (("bind", "shop", "pen", ("shop", "pen")),)):
            text = format_journal(journal[:2] + [bad] + journal[2:])
            self.assertEqual(recovered(text), journal[:2])
            self.assertEqual(len(parse_journal(text)), 4)
        self.assertEqual(recovered(text="nothing"), [])


class TestRestored(unittest.TestCase):
    def test_errors(self):
        one = machine("loader shop", "class shop item top")
        good = one.journal()
        for given in no_texts() + [tuple(good), good + [()], good + good, [(("loader", "shop", "shop"),)], "text", one]:
            if type(given) is list and given == []:
                continue
            with self.assertRaises(InvalidJournal) as caught:
                restored(given)
            self.assertIs(caught.exception.given, given)

    def test_what_is_there(self):
        one = machine("loader base", "loader shop base", "class base item top", "class shop desk top;method m 2 item;new 1 item;return 1;end")
        one.run("shop", "desk", "m", keep="i")
        one.take_down("base")
        one.release("shop")
        two = restored(journal=one.journal())
        self.assertIs(type(two), Machine)
        before, after = shown(one), shown(two)
        for word in ("down", "keeps", "removable"):
            del before[word], after[word]
        self.assertEqual(before, after)
        self.assertEqual((two.keeps(), two.down, two.released), ({}, (), ("shop",)))
        self.assertFalse(one == two)
        one.forget("i")
        self.assertTrue(one == two)
        self.assertTrue(two.tables_now() == one.tables_now())

    def test_nothing_is_shared(self):
        one = machine("loader base", "class base item top")
        journal = one.journal()
        two = restored(journal)
        journal.append(())
        two.load("base", "item")
        self.assertEqual((len(one.journal()), len(two.journal()), len(restored([]))), (2, 3, 0))

    def test_names_of_removed_loaders(self):
        one = machine("loader base")
        one.release("base")
        one.unload()
        with self.assertRaises(Exception) as caught:
            restored(one.journal()).add_loader("base")
        self.assertEqual(type(caught.exception).__name__, "NameTaken")

    def test_going_on(self):
        """Restored machines do further calls as the machines do that were not interrupted."""
        for seed in range(6000, 6150):
            rng = random.Random(seed)
            two = None
            for one, _, name, given in played(seed):
                if rng.random() < 0.15:
                    two = restored(recovered(format_journal(one.journal())))
                    # What a journal does not tell.
                    for kept in one.keeps():
                        one.forget(kept)
                    for loader in one.down:
                        one.bring_up(loader)
                outcome = do(one, name, given)
                if two is not None:
                    self.assertEqual(do(two, name, given), outcome, seed)
                    self.assertEqual(shown(two), shown(one), seed)
                    self.assertTrue(one == two)

    def test_a_journal_of_an_eager_machine(self):
        one = EagerMachine()
        for call in (("add_loader", ("base", None)),):
            do(one, *call)
        from tests.builders import fill
        fill(one, "class base item top;field f book", "class base book item")
        one.load("base", "item")
        two = restored(one.journal())
        self.assertEqual(shown(one), shown(two))
        self.assertTrue(one == two)

    def test_right_tables_of_other_authors(self):
        one = machine("loader shop", "class shop item top", "class shop book item",
                      "class shop desk top;method m 2 item;new 1 book;return 1;end")
        one.load("shop", "desk")
        table = one.check(("shop", "desk"), "m")
        wide = (table[0], (("desk",), ("book", "item")))
        two = restored(one.journal()[:-1] + [(("check", ("shop", "desk"), "m", wide),)])
        self.assertEqual(two.table(("shop", "desk"), "m"), wide)
        self.assertEqual(two.check(("shop", "desk"), "m"), wide)
        self.assertEqual(two.run("shop", "desk", "m").parts(), one.run("shop", "desk", "m").parts())
        # A table that needs more has more assumptions.
        more = (table[0], (("desk",), ("book", "pen")))
        three = restored(one.journal()[:4] + [one.journal()[4], (("check", ("shop", "desk"), "m", more),)])
        self.assertEqual([each[1] for each in three.list_assumptions()], ["book", "pen"])

    def test_wider_tables_go_on(self):
        """Point 3 (i): what a machine with other right tables does, in its journal and beside the slow one."""
        from lateclasses.sets import is_right
        tried = 0
        for seed, journal in journals(range(6000, 6200)):
            rng = random.Random(seed)
            bent = [tuple(self.widened(rng, entry, journal, is_right) for entry in change) for change in journal]
            wrong = first_wrong(bent)
            two = restored(bent[:wrong] if wrong is not None else bent)
            tried += bent != journal and wrong is None
            self.assertEqual(two.journal(), bent[:wrong] if wrong is not None else bent)
            for loader in two.loaders:
                do(two, "run", (loader, "dog", "o", (), (True, False), 50, None))
                do(two, "load", (loader, "ant"))
            self.assertIsNone(first_wrong(two.journal()))
        self.assertGreater(tried, 20)

    def widened(self, rng, entry, journal, is_right):
        if entry[0] != "check" or rng.random() < 0.3:
            return entry
        from lateclasses.formats import parse_class
        texts = [parse_class(each[2]) for change in journal for each in change
                 if each[0] == "class" and each[1] == entry[1][0]]
        method = [text for text in texts if text.name == entry[1][1]][0].method(entry[2])
        rows = [list(row) if row is not None else None for row in entry[3]]
        row = rng.choice([row for row in rows if row is not None])
        at = rng.randrange(len(row))
        row[at] = None if row[at] is None or rng.random() < 0.3 else tuple(sorted(set(row[at]) | {rng.choice(programs.NAMES)}))
        table = tuple(None if row is None else tuple(row) for row in rows)
        return entry[:3] + (table,) if is_right(entry[1][1], method, table) else entry


class TestCrash(unittest.TestCase):
    def test_all_runs_done_again(self):
        """A crash at any sign of the text: what is recovered goes on to the same end."""
        lines = ("loader base", "class base item top;method m 2 item;new 1 pen;return 1;end", "class base pen item",
                 "loader shop base", "class shop desk top;method m 2 item;new 1 item;call 1 1 item m - item -;return 1;end",
                 "class shop rack top;method m 3 item;null 1;call 2 1 desk m - item -;return 2;end")
        one = machine(*lines)
        runs = [("shop", "rack", "m"), ("shop", "desk", "m")]
        begun = len(one.journal())
        for run in runs:
            one.run(*run)
        text = format_journal(one.journal())
        start = len(format_journal(one.journal()[:begun]))
        for at in range(start, len(text) + 1, 7):
            two = restored(recovered(text[:at]))
            for run in runs:
                two.run(*run)
            self.assertEqual(sorted(two.list_loaded()), sorted(one.list_loaded()))
            self.assertEqual(sorted(two.list_equations()), sorted(one.list_equations()))
            self.assertEqual(sorted(two.list_assumptions()), sorted(one.list_assumptions()))


if __name__ == "__main__":
    unittest.main()
