"""Runs, instructions, endings and reports: points 17 to 20, with run and watch."""

import unittest

from lateclasses.errors import ClassError
from lateclasses.machine import Machine
from lateclasses.questions import open_assumptions
from lateclasses.running import Report
from tests.builders import machine
from tests.slow_machine import Run
from tests.test_random_machine import do, do_slowly, played, shown


def play(code, *more, size=4, choices=(), limit=1000, result="top"):
    """The report of a method of desk, which has this code."""
    one = machine("loader shop", f"class shop desk top;method m {size} {result};{code};end", *more)
    return one.run("shop", "desk", "m", (), choices, limit=limit)


def place(index):
    return ("shop", "desk", "m", index)


def failed(kind, index):
    return ("failed", (kind, (), ()), place(index))


ITEM = "class shop item top;field held item;field many item[];method show 1 item;tell 0;return 0;end"
BOOK = "class shop book item;method show 1 item;null 0;return 0;end"
MARKED = "class shop book item;mark sold;method show 1 item;tell 0;null 0;return 0;end"
SOLD = "class shop sold top"


class TestInstructions(unittest.TestCase):
    def ends(self, code, ending, *more, told=None, steps=None, **named):
        report = play(code, *more, **named)
        self.assertEqual(report.ending, ending, code)
        if told is not None:
            self.assertEqual(report.told, told)
        if steps is not None:
            self.assertEqual(report.steps, steps)
        return report

    def test_new_and_tell(self):
        report = self.ends("new 1 book;tell 1;tell 0;return 1", ("returned", "book@shop"), ITEM, BOOK,
                           told=["book@shop", "desk@shop"], steps=4)
        self.assertEqual(report.loads, [("shop", "desk"), ("shop", "item"), ("shop", "book")])

    def test_new_fails(self):
        report = self.ends("new 1 book;return 1", ("failed", ("NoClass", ("shop", "book"), (("bind", "shop", "book"),)),
                                                   place(0)), steps=1)
        self.assertEqual(report.loads, [("shop", "desk")])
        trail = (("load", ("shop", "book")), ("bind", "shop", "item"))
        self.ends("new 1 book;return 1", ("failed", ("NoClass", ("shop", "item"), trail), place(0)), "class shop book item")

    def test_new_top(self):
        self.ends("new 1 top;tell 1;return 1", ("returned", "top@"), told=["top@"])

    def test_array(self):
        self.ends("array 1 book 2;tell 1;load 2 1 1;tell 2;return 1", ("returned", "book[]@shop"),
                  told=["book[]@shop", "null"])
        # Making one loads and binds nothing.
        one = machine("loader shop", "class shop desk top;method m 2 top;array 1 book 2;return 1;end")
        one.run("shop", "desk", "m")
        self.assertEqual((one.list_loaded(), one.meaning("shop", "book")), ([("shop", "desk")], None))

    def test_null_and_move(self):
        self.ends("null 1;tell 1;move 2 0;move 1 2;tell 1;return 2", ("returned", "desk@shop"), told=["null", "desk@shop"])

    def test_get_and_put(self):
        self.ends("new 1 item;get 2 1 item held item;tell 2;put 1 item held item 1;get 2 1 item held item;tell 2;return 2",
                  ("returned", "item@shop"), ITEM, told=["null", "item@shop"])
        # A field of a class above, and an array in a field.
        self.ends("new 1 book;array 2 item 1;put 1 book many item[] 2;get 3 1 item many item[];return 3",
                  ("returned", "item[]@shop"), ITEM, BOOK)

    def test_each_object_has_its_own_fields(self):
        self.ends("new 1 item;new 2 item;put 1 item held item 2;get 3 2 item held item;return 3", ("returned", "null"), ITEM)

    def test_get_and_put_fail(self):
        self.ends("null 1;get 2 1 item held item;return 2", failed("Null", 1), steps=2)
        self.ends("null 1;put 1 item held item 1;return 1", failed("Null", 1))
        for access in ("get 2 1 item none item", "get 2 1 item held book", "get 2 1 top held item",
                       "put 1 item none item 1", "put 1 item held top 1", "put 1 top held item 1"):
            self.ends(f"new 1 item;{access};return 1", failed("NoField", 1), ITEM)
        # An array lies below top, which has no fields.
        self.ends("array 1 item 1;get 2 1 top held item;return 1", failed("NoField", 1), ITEM)

    def test_call(self):
        # The method of the class of the object runs.
        self.ends("new 1 book;call 2 1 item show - item -;return 2", ("returned", "null"), ITEM, BOOK, told=[], steps=5)
        self.ends("new 1 item;call 2 1 item show - item -;return 2", ("returned", "item@shop"), ITEM, told=["item@shop"])

    def test_arguments(self):
        pair = "class shop pair top;method pick 4 top top pair top;tell 1;tell 2;tell 3;return 2;end"
        self.ends("new 1 pair;call 2 1 pair pick top,pair,top top 0,1,0;return 2", ("returned", "pair@shop"), pair,
                  told=["desk@shop", "pair@shop", "desk@shop"])

    def test_call_fails(self):
        self.ends("null 1;call 2 1 item show - item -;return 2", failed("Null", 1))
        for call in ("item hide - item -", "item show - top -", "item show item item 1", "top show - item -"):
            self.ends(f"new 1 item;call 2 1 {call};return 2", failed("NoMethod", 1), ITEM)
        # The name is looked up in the chain of the class, not in that of the object.
        self.ends("new 1 book;call 2 1 item read - item -;return 2", failed("NoMethod", 1), ITEM,
                  "class shop book item;method read 1 item;return 0;end")
        self.ends("array 1 item 1;call 2 1 top show - item -;return 1", failed("NoMethod", 1), ITEM)

    def test_ask(self):
        self.ends("new 1 book;ask 2 1 sold show - item -;return 2", ("returned", "null"), ITEM, MARKED, SOLD,
                  told=["book@shop"])
        # The mark of a class above, the method of the class itself.
        novel = "class shop novel book;method show 1 item;return 0;end"
        self.ends("new 1 novel;ask 2 1 sold show - item -;return 2", ("returned", "novel@shop"), ITEM, MARKED, SOLD, novel)

    def test_ask_fails(self):
        self.ends("null 1;ask 2 1 sold show - item -;return 2", failed("Null", 1))
        self.ends("new 1 item;ask 2 1 sold show - item -;return 2", failed("NoMark", 1), ITEM, MARKED, SOLD)
        self.ends("new 1 item;ask 2 1 none show - item -;return 2",
                  ("failed", ("NoClass", ("shop", "none"), (("bind", "shop", "none"),)), place(1)), ITEM)
        for ask in ("hide - item -", "show - top -", "show item item 1"):
            self.ends(f"new 1 book;ask 2 1 sold {ask};return 2", failed("NoMethod", 1), ITEM, MARKED, SOLD)
        self.ends("array 1 item 1;ask 2 1 sold show - item -;return 2", failed("NoMark", 1), SOLD)
        self.ends("new 1 item;ask 2 1 top show - item -;return 2", failed("NoMark", 1), ITEM)

    def test_a_mark_is_an_identity(self):
        one = machine("loader base", "class base sold top", "class base item top;mark sold;method show 1 item;return 0;end",
                      "loader shop base", "class shop sold top",
                      "class shop desk top;method m 3 top;new 1 item;ask 2 1 sold show - item -;return 2;end")
        self.assertEqual(one.run("shop", "desk", "m").ending, failed("NoMark", 1))
        self.assertIsNone(one.meaning("shop", "sold"))

    def test_the_method_that_runs_is_checked(self):
        bad = "class shop item top;method show 2 item;return 1;end"
        for call in ("call 2 1 item show - item -", "ask 2 1 sold show - item -"):
            report = play(f"new 1 item;{call};return 2", bad.replace("top;", "top;mark sold;"), SOLD)
            self.assertEqual(report.ending, ("failed", (
                "Method", (("shop", "item"), "show", ("unset", 0, 1)), (("check", ("shop", "item"), "show"),)), place(1)))

    def test_checked_before_its_first_run_only(self):
        one = machine("loader shop", ITEM, "class shop desk top;method m 3 top;new 1 item;call 2 1 item show - item -"
                      ";call 2 1 item show - item -;return 2;end")
        one.run("shop", "desk", "m", limit=1)
        self.assertIsNone(one.table(("shop", "item"), "show"))
        one.run("shop", "desk", "m")
        self.assertEqual([entry[0] for change in one.journal() for entry in change].count("check"), 2)

    def test_deep(self):
        loop = "class shop item top;method show 2 item;tell 0;call 1 0 item show - item -;return 0;end"
        one = machine("loader shop", loop)
        report = one.run("shop", "item", "show")
        self.assertEqual(Machine.MOST_CALLS, 30)
        self.assertEqual(report.ending, ("failed", ("Deep", (), ()), ("shop", "item", "show", 1)))
        self.assertEqual((len(report.told), report.steps), (30, 60))

    def test_thirty_within_each_other(self):
        texts = [f"class shop c{'abcdefghijklmnopqrstuvwxyz'[k % 26]}{'ab'[k // 26]} top;method m 3 top;tell 0;"
                 f"new 1 c{'abcdefghijklmnopqrstuvwxyz'[(k + 1) % 26]}{'ab'[(k + 1) // 26]};"
                 f"call 2 1 c{'abcdefghijklmnopqrstuvwxyz'[(k + 1) % 26]}{'ab'[(k + 1) // 26]} m - top -;return 2;end"
                 for k in range(29)]
        one = machine("loader shop", *texts, "class shop cdb top;method m 1 top;tell 0;return 0;end")
        report = one.run("shop", "caa", "m")
        self.assertEqual(report.ending, ("returned", "cdb@shop"))
        self.assertEqual(len(report.told), 30)
        one = machine("loader shop", *texts, "class shop cdb top;method m 2 top;tell 0;call 1 0 cdb m - top -;return 0;end")
        self.assertEqual(one.run("shop", "caa", "m").ending, ("failed", ("Deep", (), ()), ("shop", "cdb", "m", 1)))

    def test_deep_comes_ahead_of_the_check(self):
        bad = "class shop pen top;method show 2 top;return 1;end"
        deep = ("class shop item top;method show 3 top;new 1 pen;choose 4;call 2 0 item show - top -;return 0"
                ";call 2 1 pen show - top -;return 0;end")
        one = machine("loader shop", deep, bad)
        report = one.run("shop", "item", "show", (), [False] * 29 + [True])
        self.assertEqual(report.ending, ("failed", ("Deep", (), ()), ("shop", "item", "show", 4)))
        report = one.run("shop", "item", "show", (), [False] * 28 + [True])
        self.assertEqual(report.ending[1][0], "Method")

    def test_cast(self):
        self.ends("new 1 book;cast 2 1 item;tell 2;cast 2 1 top;return 2", ("returned", "book@shop"), ITEM, BOOK,
                  told=["book@shop"])
        self.ends("null 1;cast 2 1 none;return 2", ("returned", "null"))
        self.ends("new 1 item;cast 2 1 book;return 2", failed("Cast", 1), ITEM, BOOK)
        self.ends("new 1 item;cast 2 1 none;return 2", failed("Cast", 1), ITEM)
        self.ends("array 1 item 0;cast 2 1 item;return 2", failed("Cast", 1), ITEM)
        self.ends("array 1 item 0;cast 2 1 top;return 2", ("returned", "item[]@shop"), ITEM)

    def test_ifis(self):
        code = "new 1 book;ifis 1 {} 3;null 1;return 1"
        for name, ending in (("item", "book@shop"), ("book", "book@shop"), ("top", "book@shop"), ("desk", "null"),
                             ("none", "null")):
            self.ends(code.format(name), ("returned", ending), ITEM, BOOK)
        self.ends("null 1;ifis 1 top 3;return 0;return 1", ("returned", "desk@shop"))
        self.ends("array 1 item 0;ifis 1 item 4;ifis 1 top 4;return 0;return 1", ("returned", "item[]@shop"), ITEM)

    def test_cast_and_ifis_bind_and_load_nothing(self):
        one = machine("loader shop", ITEM, BOOK, "class shop desk top;method m 2 top;ifis 0 book 1;choose 2;cast 1 0 item;return 1;end")
        one.run("shop", "desk", "m", (), [False])
        # The cast failed: item is not bound by it. The ifis did not.
        self.assertEqual([one.meaning("shop", "book"), one.meaning("shop", "item")], [("shop", "book"), None])
        self.assertEqual(one.list_loaded(), [("shop", "desk")])
        one = machine("loader shop", "class shop desk top;method m 2 top;ifis 0 book 1;return 0;end")
        one.run("shop", "desk", "m")
        self.assertIsNone(one.meaning("shop", "book"))
        one.add_class("shop", machine("loader shop", BOOK).tables_now().text("shop", "book"))

    def test_load_and_store(self):
        self.ends("new 1 book;array 2 item 2;store 2 1 1;load 3 2 1;tell 3;load 3 2 0;return 3", ("returned", "null"),
                  ITEM, BOOK, told=["book@shop"])
        self.ends("null 1;load 2 1 0;return 2", failed("Null", 1))
        self.ends("null 1;store 1 0 0;return 1", failed("Null", 1))
        self.ends("array 1 item 2;load 2 1 2;return 2", failed("Index", 1))
        self.ends("array 1 item 2;null 2;store 1 2 2;return 2", failed("Index", 2))
        self.ends("array 1 item 9;load 2 1 8;return 2", ("returned", "null"))
        self.ends("array 1 item 9;load 2 1 9;return 2", failed("Index", 1))

    def test_store_fails(self):
        self.ends("array 1 book 1;new 2 item;store 1 0 2;return 1", failed("Store", 2), ITEM, BOOK)
        self.ends("array 1 none 1;store 1 0 0;return 1", failed("Store", 1))
        self.ends("array 1 none 1;null 2;store 1 0 2;return 1", ("returned", "none[]@shop"))
        self.ends("array 1 item 1;array 2 item 1;store 1 0 2;return 1", failed("Store", 2), ITEM)
        self.ends("array 1 top 1;array 2 item 1;store 1 0 2;load 3 1 0;return 3", ("returned", "item[]@shop"))

    def test_an_array_keeps_its_loader(self):
        one = machine("loader base", "class base item top", "class base maker top;method make 2 top;array 1 item 1;return 1;end",
                      "loader shop base", "class shop item top",
                      "class shop desk top;method m 4 top;new 1 maker;call 1 1 maker make - top -;cast 2 1 top;tell 1"
                      ";new 3 item;return 1;end")
        report = one.run("shop", "desk", "m")
        self.assertEqual((report.told, report.ending), (["item[]@base"], ("returned", "item[]@base")))

    def test_closing_ahead_of_the_store(self):
        # item gets live by the store: then book[] as item[] is decided.
        one = machine("loader shop", "class shop item top", "class shop pen top",
                      "class shop desk top;method show 2 top item[];return 0;end"
                      ";method m 4 top;array 1 pen 1;call 2 0 desk show item[] top 1;new 2 pen;store 1 0 2;return 0;end")
        report = one.run("shop", "desk", "m")
        self.assertEqual(report.ending[1][0], "Refused")
        self.assertEqual(report.ending[2], ("shop", "desk", "m", 2))

    def test_jumps(self):
        self.ends("jump 2;return 1;return 0", ("returned", "desk@shop"), steps=2)
        self.ends("null 1;ifnull 1 3;return 0;return 1", ("returned", "null"))
        self.ends("ifnull 0 2;return 0;null 1;return 1", ("returned", "desk@shop"), steps=2)

    def test_choose(self):
        code = "choose 2;return 0;null 1;choose 4;return 1"
        self.ends(code, ("returned", "desk@shop"), choices=[False], steps=2)
        self.ends(code, ("returned", "null"), choices=(True, False), steps=4)
        self.ends(code, ("starved",), choices=[True], steps=2)
        self.ends(code, ("starved",), steps=0)
        # More than are needed do no harm.
        self.ends(code, ("returned", "desk@shop"), choices=[False, True, True])

    def test_limits(self):
        code = "tell 0;choose 0;return 0"
        self.ends(code, ("stopped",), limit=0, told=[], steps=0)
        self.ends(code, ("stopped",), limit=1, told=["desk@shop"], steps=1)
        # Both at once: the limit comes first.
        self.ends(code, ("starved",), limit=2, steps=1)
        self.ends(code, ("returned", "desk@shop"), limit=3, choices=[False], steps=3)
        self.ends(code, ("stopped",), limit=2, choices=[False], steps=2)
        self.ends("jump 0", ("stopped",), limit=2000, steps=2000)
        one = machine("loader shop", "class shop desk top;method m 1 top;jump 0;end")
        self.assertEqual((one.run("shop", "desk", "m").steps, len(list(one.watch("shop", "desk", "m")))), (1000, 1000))

    def test_failures_and_the_limit(self):
        self.ends("null 1;get 2 1 item held item;return 2", failed("Null", 1), limit=2, steps=2)
        self.ends("null 1;get 2 1 item held item;return 2", ("stopped",), limit=1, steps=1)

    def test_what_was_done_ahead_of_a_failure_stays(self):
        one = machine("loader shop", ITEM, "class shop desk top;method m 3 top;new 1 item;tell 1;null 1;get 2 1 item held item;return 2;end")
        report = one.run("shop", "desk", "m")
        self.assertEqual((report.loads, report.told), ([("shop", "desk"), ("shop", "item")], ["item@shop"]))
        self.assertEqual(one.list_loaded(), report.loads)


class TestClosing(unittest.TestCase):
    """What binds a name decides the assumptions about it at the end of the same instruction."""

    LINES = ("loader base", "class base pen {}", "class base item top", "class base sold top", "loader shop base",
             "class shop rack top;method n 2 item;new 1 pen;return 1;end",
             "class shop desk top;method m 3 top pen;{};return 0;end;method v 2 top pen;return 1;end",
             "class base maker top;method make 2 top;new 1 pen;return 1;end")

    def made(self, above, code="null 2"):
        one = machine(*[line.format(above) if "pen {}" in line else line.format(code) for line in self.LINES])
        one.run("base", "maker", "make", keep="p")
        one.load("shop", "rack")
        one.check(("shop", "rack"), "n")
        one.run("shop", "desk", "m", [None], limit=0)
        self.assertIsNone(one.meaning("shop", "pen"))
        self.assertEqual(open_assumptions(one), [("shop", "pen", "item")])
        return one

    def test_instructions(self):
        # The array is of top, so that storing binds nothing; 0 is the object, which is no pen.
        for code, index in (("ifis 0 pen 1", 0), ("new 2 pen", 0), ("array 2 pen 1;cast 2 0 pen", None)):
            one = self.made("top", code)
            before = shown(one)
            report = one.run("shop", "desk", "m", [None])
            if index is None:
                self.assertEqual(report.ending[1][0], "Cast")
            else:
                self.assertEqual((report.ending[1][0], report.ending[1][2], report.ending[2]),
                                 ("Refused", (("decide", "shop", "pen", "item"),), ("shop", "desk", "m", index)))
            self.assertEqual(shown(one), before)

    def test_what_holds(self):
        for code in ("ifis 0 pen 1", "new 2 pen"):
            one = self.made("item", code)
            self.assertEqual(one.run("shop", "desk", "m", [None]).ending[0], "returned")
            self.assertEqual((open_assumptions(one), one.meaning("shop", "item")), ([], ("base", "item")))

    def kept(self, above, code):
        """Code of base that makes a pen, seen from shop, where it is cast, stored or a value."""
        lines = ("loader base", f"class base pen {above}", "class base item top", "class base maker top;method make 2 top;new 1 pen"
                 ";return 1;end", "loader shop base", "class shop rack top;method n 2 item;new 1 pen;return 1;end",
                 f"class shop desk top;method m 4 top top;{code};return 0;end;method v 2 top pen;return 0;end")
        one = machine(*lines)
        one.run("base", "maker", "make", keep="p")
        one.load("shop", "rack")
        one.check(("shop", "rack"), "n")
        return one

    def test_casts_stores_and_values(self):
        for code, index in (("cast 2 1 pen", 0), ("array 2 pen 1;store 2 0 1", 1), ("ifis 1 pen 1", 0)):
            one = self.kept("top", code)
            one.run("shop", "desk", "m", ["p"], limit=0)
            before = shown(one)
            report = one.run("shop", "desk", "m", ["p"])
            self.assertEqual((report.ending[1][0], report.ending[2], report.steps),
                             ("Refused", ("shop", "desk", "m", index), index + 1), code)
            self.assertEqual(shown(one), before)
            one = self.kept("item", code)
            self.assertEqual(one.run("shop", "desk", "m", ["p"]).ending[0], "returned")
            self.assertEqual(open_assumptions(one), [])
        one = self.kept("top", "null 2")
        before = shown(one)
        self.assertEqual(one.run("shop", "desk", "v", ["p"]).ending[1:], (
            ("Refused", ("shop", "pen", "item", (("shop", "rack", "n", 1),), (("base", "pen"), ("", "top"))),
             (("decide", "shop", "pen", "item"),)), None))
        self.assertEqual(shown(one), before)

    def test_the_method_that_is_called(self):
        """The check that a call brings is closed at the end of the call instruction."""
        lines = ("loader shop", "class shop item top", "class shop pen top;method n 1 item;return 0;end", "class shop sold top",
                 "class shop ink pen;mark sold;method o 1 item;return 0;end",
                 "class shop desk top;method m 3 top;new 1 {0};{1};return 0;end")
        for name, call in (("pen", "call 2 1 pen n - item -"), ("ink", "ask 2 1 sold o - item -")):
            one = machine(*[line.format(name, call) for line in lines])
            report = one.run("shop", "desk", "m")
            self.assertEqual((report.ending[1][0], report.ending[2]), ("Refused", ("shop", "desk", "m", 1)))
            self.assertIsNone(one.table(("shop", "pen"), "n"))


class TestBeginning(unittest.TestCase):
    def begins(self, one, failure, *given, **named):
        before = shown(one)
        report = one.run(*given, **named)
        self.assertEqual(report.parts(), ((), ("failed", failure, None), 0, ()))
        self.assertEqual(shown(one), before)

    def test_no_class(self):
        one = machine("loader shop")
        self.begins(one, ("NoClass", ("shop", "desk"), (("bind", "shop", "desk"),)), "shop", "desk", "m")

    def test_not_loaded(self):
        one = machine("loader shop", "class shop desk desk")
        load = ("load", ("shop", "desk"))
        self.begins(one, ("Shape", (("shop", "desk"), ("circle",)), (load, load)), "shop", "desk", "m", limit=0)
        one.take_down("shop")
        self.begins(one, ("Down", (("shop", "desk"),), (load,)), "shop", "desk", "m")

    def test_no_entry(self):
        one = machine("loader shop", "class shop desk top;method n 1 top;return 0;end")
        self.begins(one, ("NoEntry", (), ()), "shop", "desk", "m")
        self.begins(one, ("NoEntry", (), ()), "shop", "top", "m")

    def test_wrong_method(self):
        one = machine("loader shop", "class shop desk top;method m 2 top;return 1;end")
        self.begins(one, ("Method", (("shop", "desk"), "m", ("unset", 0, 1)), (("check", ("shop", "desk"), "m"),)),
                    "shop", "desk", "m")

    def test_refused_at_the_beginning(self):
        one = machine("loader shop", "class shop desk top;method m 1 item;return 0;end", "class shop item top")
        self.begins(one, ("Refused", ("shop", "desk", "item", (("shop", "desk", "m", 0),), (("shop", "desk"), ("", "top"))),
                          (("decide", "shop", "desk", "item"),)), "shop", "desk", "m")

    def test_the_method_of_a_class_above(self):
        one = machine("loader base", "class base desk top;method m 1 top;tell 0;return 0;end", "loader shop base",
                      "class shop bureau desk")
        report = one.run("shop", "bureau", "m")
        self.assertEqual((report.told, report.ending), (["bureau@shop"], ("returned", "bureau@shop")))
        self.assertEqual(one.reason(("shop", "bureau")), ("run",))
        self.assertEqual(one.reason(("base", "desk")), ("above", ("shop", "bureau")))
        self.assertIsNotNone(one.table(("base", "desk"), "m"))

    def test_one_change(self):
        one = machine("loader shop", "class shop desk top;method m 1 top;tell 0;return 0;end")
        one.run("shop", "desk", "m")
        self.assertEqual([entry[0] for entry in one.journal()[-1]], ["bind", "load", "check"])
        many = len(one.journal())
        one.run("shop", "desk", "m")
        self.assertEqual(len(one.journal()), many)


VALUES = ("loader shop", "class shop item top;field held item", "class shop book item",
          "class shop maker top;method book 2 top;new 1 book;return 1;end;method row 2 top;array 1 item 1;return 1;end"
          ";method none 2 top;null 1;return 1;end",
          "class shop desk top;method one 2 top item;return 1;end;method any 2 top top;return 1;end"
          ";method row 2 top item[];return 1;end;method two 3 top item top;tell 1;tell 2;return 2;end"
          ";method odd 2 top none;return 1;end;method put 3 top item item;put 1 item held item 2;return 1;end"
          ";method get 2 top item;get 1 1 item held item;return 1;end"
          ";method other 2 top maker;return 1;end")


class TestKept(unittest.TestCase):
    def setUp(self):
        self.one = machine(*VALUES)
        self.one.run("shop", "maker", "book", keep="b")
        self.one.run("shop", "maker", "row", keep="r")

    def ends(self, method, values, ending):
        report = self.one.run("shop", "desk", method, values)
        self.assertEqual(report.ending, ending)
        return report

    def value_fails(self, method, values):
        self.ends(method, values, ("failed", ("Value", (), ()), None))

    def test_what_is_kept(self):
        self.assertEqual(self.one.keeps(), {"b": "book@shop", "r": "item[]@shop"})
        self.one.run("shop", "desk", "two", [None, "b"], keep="c")
        self.assertEqual(self.one.keeps(), {"b": "book@shop", "r": "item[]@shop", "c": "book@shop"})

    def test_values(self):
        self.ends("one", ["b"], ("returned", "book@shop"))
        self.ends("one", (None,), ("returned", "null"))
        self.ends("any", ["b"], ("returned", "book@shop"))
        self.ends("any", ["r"], ("returned", "item[]@shop"))
        self.ends("row", [None], ("returned", "null"))
        self.ends("odd", [None], ("returned", "null"))
        self.assertEqual(self.ends("two", ["b", "r"], ("returned", "item[]@shop")).told, ["book@shop", "item[]@shop"])
        self.assertEqual(self.one.meaning("shop", "item"), ("shop", "item"))

    def test_values_that_do_not_fit(self):
        for method, values in (("one", []), ("one", ["b", "b"]), ("two", ["b"]), ("row", ["r"]), ("row", ["b"]),
                               ("one", ["r"]), ("odd", ["b"]), ("other", ["b"]), ("two", ["r", "b"])):
            self.value_fails(method, values)

    def test_values_are_bound_at_the_beginning(self):
        one = machine(*VALUES)
        one.run("shop", "maker", "book", keep="b")
        one.run("shop", "desk", "one", ["b"])
        beginning = one.journal()[-1]
        self.assertEqual([entry[:3] for entry in beginning],
                         [("bind", "shop", "desk"), ("load", ("shop", "desk"), ("run",)), ("check", ("shop", "desk"), "one")])
        one = machine("loader base", "class base item top", "class base maker top;method make 2 top;new 1 item;return 1;end",
                      "loader shop base", "class shop desk top;method one 2 top item;return 1;end")
        one.run("base", "maker", "make", keep="i")
        one.run("shop", "desk", "one", ["i"])
        self.assertIn(("bind", "shop", "item", ("base", "item")), one.journal()[-1])

    def test_a_value_of_another_loader(self):
        one = machine("loader base", "class base item top", "class base maker top;method make 2 top;new 1 item;return 1;end",
                      "loader shop base", "class shop item top", "class shop desk top;method one 2 top item;return 1;end")
        one.run("base", "maker", "make", keep="i")
        before = shown(one)
        self.assertEqual(one.run("shop", "desk", "one", ["i"]).ending, ("failed", ("Value", (), ()), None))
        self.assertEqual(shown(one), before)

    def test_null_is_not_kept(self):
        self.one.run("shop", "maker", "none", keep="b")
        self.assertEqual(self.one.keeps(), {"r": "item[]@shop"})
        self.one.run("shop", "maker", "none", keep="new")
        self.assertEqual(self.one.keeps(), {"r": "item[]@shop"})

    def test_a_run_that_does_not_return(self):
        for method, named in (("book", {"limit": 0}), ("gone", {}), ("book", {"limit": 1})):
            self.one.run("shop", "maker", method, keep="b", **named)
            self.assertEqual(self.one.keeps()["b"], "book@shop")

    def test_another_one_under_the_name(self):
        self.one.run("shop", "maker", "row", keep="b")
        self.assertEqual(self.one.keeps()["b"], "item[]@shop")

    def test_forget(self):
        self.assertIsNone(self.one.forget(name="b"))
        self.assertEqual(self.one.keeps(), {"r": "item[]@shop"})
        for given in ("b", "none", None, [], "", 0):
            with self.assertRaises(Exception) as caught:
                self.one.forget(given)
            self.assertEqual((type(caught.exception).__name__, caught.exception.given), ("UnknownName", given))

    def test_fields_stay(self):
        self.one.run("shop", "maker", "book", keep="c")
        self.ends("get", ["b"], ("returned", "null"))
        self.ends("put", ["b", "c"], ("returned", "book@shop"))
        self.one.forget("c")
        self.ends("get", ["b"], ("returned", "book@shop"))

    def test_cycles(self):
        self.ends("put", ["b", "b"], ("returned", "book@shop"))
        twin = self.one.copy()
        self.assertEqual(twin.run("shop", "desk", "get", ["b"], keep="again").ending, ("returned", "book@shop"))
        # Both names have the same object.
        twin.run("shop", "desk", "put", ["again", None])
        self.assertEqual(twin.run("shop", "desk", "get", ["b"]).ending, ("returned", "null"))
        # The copy's objects are its own.
        self.ends("get", ["b"], ("returned", "book@shop"))

    def test_what_a_failing_run_did_to_objects_stays(self):
        one = machine("loader shop", "class shop item top;field held item",
                      "class shop desk top;method make 2 top;new 1 item;return 1;end"
                      ";method bad 2 top item;put 1 item held item 1;null 0;tell 0;get 0 0 item held item;return 0;end"
                      ";method get 2 top item;get 1 1 item held item;return 1;end")
        one.run("shop", "desk", "make", keep="i")
        self.assertEqual(one.run("shop", "desk", "bad", ["i"], keep="i").ending[1][0], "Null")
        self.assertEqual(one.run("shop", "desk", "get", ["i"]).ending, ("returned", "item@shop"))


class TestErrors(unittest.TestCase):
    def raises(self, one, error, stored, *given, **named):
        before = shown(one), one.calls()
        for call in (one.run, lambda *a, **n: next(one.watch(*a, **n))):
            if call != one.run:
                named = {key: named[key] for key in named if key != "keep"}
                if error == "InvalidName" and stored in ([], "Keep", ""):
                    continue
            with self.assertRaises(Exception) as caught:
                call(*given, **named)
            self.assertEqual((type(caught.exception).__name__, caught.exception.given), (error, stored))
        self.assertEqual((shown(one), one.calls()), before)

    def test_all_in_order(self):
        one = machine(*VALUES)
        one.run("shop", "maker", "book", keep="b")
        bad = {"values": 0, "choices": 0, "limit": None, "keep": []}
        self.raises(one, "UnknownLoader", "none", "none", None, None, **bad)
        self.raises(one, "InvalidName", None, "shop", None, 5, **bad)
        self.raises(one, "InvalidName", 5, "shop", "desk", 5, **bad)
        self.raises(one, "InvalidValues", 0, "shop", "desk", "one", **bad)
        for values in (None, "b", {"b": "b"}, ["none"], ["b", 0], [["b"]], {"b"}, [True], ["B"], [()]):
            self.raises(one, "InvalidValues", values, "shop", "desk", "one", **{**bad, "values": values})
        for choices in (None, [0], [1], ["0"], [True, None], "", {}, (False, 0)):
            self.raises(one, "InvalidChoices", choices, "shop", "desk", "one", **{**bad, "values": [], "choices": choices})
        for limit in (-1, 2001, True, False, None, "5", 1.0, []):
            self.raises(one, "InvalidLimit", limit, "shop", "desk", "one", (), (), **{"limit": limit, "keep": []})
        for keep in ([], "Keep", ""):
            self.raises(one, "InvalidName", keep, "shop", "desk", "one", keep=keep)

    def test_forgotten_values(self):
        one = machine(*VALUES)
        one.run("shop", "maker", "book", keep="b")
        one.forget("b")
        self.raises(one, "InvalidValues", ["b"], "shop", "desk", "one", ["b"])

    def test_by_name(self):
        one = machine(*VALUES)
        report = one.run(loader="shop", name="maker", method="book", values=[], choices=(), limit=2000, keep="b")
        self.assertIsInstance(report, Report)
        self.assertEqual(one.calls()[-1], ("run", ("shop", "maker", "book", (), (), 2000, "b"), report.parts()))
        self.assertEqual(next(one.watch(loader="shop", name="desk", method="any", values=["b"], choices=[], limit=3)),
                         (("shop", "desk", "any", 0), ("desk@shop", "book@shop")))


class TestWatch(unittest.TestCase):
    LINES = ("loader shop", ITEM, "class shop desk top;method m 4 top top;new 2 item;choose 3;tell 2"
             ";call 3 2 item show - item -;return 3;end")

    def test_each_instruction(self):
        one = machine(*self.LINES)
        desk, item = "desk@shop", "item@shop"
        self.assertEqual(list(one.watch("shop", "desk", "m", [None], [True])), [
            (("shop", "desk", "m", 0), (desk, "null", "null", "null")),
            (("shop", "desk", "m", 1), (desk, "null", item, "null")),
            (("shop", "desk", "m", 3), (desk, "null", item, "null")),
            (("shop", "item", "show", 0), (item,)), (("shop", "item", "show", 1), (item,)),
            (("shop", "desk", "m", 4), (desk, "null", item, item))])

    def test_the_machine_is_not_changed(self):
        one = machine(*self.LINES)
        before = shown(one), one.calls()
        for many in (1, 3, 6):
            watched = one.watch("shop", "desk", "m", [None], [True])
            for _ in range(many):
                next(watched)
            self.assertEqual((shown(one), one.calls()), before)

    def test_how_it_ends(self):
        one = machine(*self.LINES)
        for choices, limit, many in (([], 1000, 1), ([False], 1000, 7), ([True], 3, 3), ([True], 0, 0), ([], 1, 1)):
            watched = list(one.watch("shop", "desk", "m", [None], choices, limit=limit))
            self.assertEqual(len(watched), many)
            self.assertEqual(one.copy().run("shop", "desk", "m", [None], choices, limit=limit).steps, many)
        # What fails is performed; a beginning that fails gives nothing.
        self.assertEqual(len(list(machine("loader shop", "class shop desk top;method m 2 top;new 1 pen;return 1;end").watch(
            "shop", "desk", "m"))), 1)
        self.assertEqual(list(one.watch("shop", "desk", "none")), [])
        self.assertEqual(list(one.watch("shop", "pen", "m")), [])

    def test_errors_come_with_the_first_tuple(self):
        one = machine("loader shop")
        watched = one.watch("none", "desk", "m")
        with self.assertRaises(Exception) as caught:
            next(watched)
        self.assertEqual(type(caught.exception).__name__, "UnknownLoader")

    def test_beside_run_and_the_slow_machine(self):
        compared = 0
        for seed in range(150):
            for one, slow, name, given in played(seed):
                if name != "run" or not one.tables_now().names:
                    if do(one, name, given)[0] != "error":
                        do_slowly(slow, name, given)
                    continue
                try:
                    watched = list(one.watch(*given[:5], limit=given[5]))
                except ClassError:
                    continue
                report = one.run(*given[:5], limit=given[5], keep=given[6])
                self.assertEqual(len(watched), report.steps)
                slowly = Run(slow, given[4], given[5])
                slowly.all(*given[:4], given[6])
                self.assertEqual(watched, slowly.seen)
                compared += len(watched)
        self.assertGreater(compared, 3000)


if __name__ == "__main__":
    unittest.main()
