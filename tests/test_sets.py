import random
import time
import unittest

from lateclasses.codes import Method
from lateclasses.errors import ClassError, InvalidMethod, InvalidName, InvalidTable
from lateclasses.sets import is_closed, is_right, least_table, needs, wrong_reason
from tests import slow_sets
from tests.samples import GOOD_NAMES, AlwaysEqual, NeverAsked, Parts, no_names, no_types
from tests.test_codes import SAMPLES

RETURN = ("return", 0)


def made(*code, params=(), result="top", size=4):
    return Method("m", params, result, size, code)


def row_at(index, *code, **more):
    """The row of the least table at an instruction."""
    return least_table("own", made(*code, **more))[index]


def reason(*code, **more):
    return wrong_reason("own", made(*code, **more))


def needed(*code, **more):
    method = made(*code, **more)
    return needs("own", method, least_table("own", method))


def no_methods():
    posed = Parts(name="m", params=(), result="top", size=1, code=(RETURN,))
    return no_names() + ["m", "book", Method, posed, (("return", 0),), InvalidMethod(None)]


class TestLeastTable(unittest.TestCase):
    def test_first_row(self):
        self.assertEqual(least_table("own", made(RETURN, size=1)), ((("own",),),))
        self.assertEqual(row_at(0, RETURN), (("own",), None, None, None))
        self.assertEqual(row_at(0, RETURN, params=("book", "pen[]")), (("own",), ("book",), ("pen[]",), None))
        for name in GOOD_NAMES:
            self.assertEqual(least_table(name, made(RETURN, params=[name]))[0], ((name,), (name,), None, None))

    def test_what_each_instruction_gives(self):
        params = ("book", "pen[]", "top")
        before = (("own",), ("book",), ("pen[]",), ("top",), None)
        for step, spot, held in (
                (("new", 4, "item"), 4, ("item",)), (("new", 1, "item"), 1, ("item",)),
                (("array", 4, "item", 3), 4, ("item[]",)), (("null", 1), 1, ()), (("null", 4), 4, ()),
                (("move", 4, 2), 4, ("pen[]",)), (("move", 1, 4), 1, None), (("move", 1, 1), 1, ("book",)),
                (("get", 4, 1, "book", "left", "item[]"), 4, ("item[]",)),
                (("put", 1, "book", "left", "top", 3), 0, ("own",)),
                (("call", 4, 1, "book", "cost", ("top",), "item", (1,)), 4, ("item",)),
                (("call", 1, 1, "book", "cost", (), "pen[]", ()), 1, ("pen[]",)),
                (("ask", 4, 1, "sold", "cost", ("top",), "item", (1,)), 4, ("item",)),
                (("cast", 4, 3, "item"), 4, ("item",)), (("cast", 3, 3, "item"), 3, ("item",)),
                (("load", 4, 2, 0), 4, ("pen",)), (("load", 2, 2, 0), 2, ("pen",)), (("load", 1, 4, 0), 1, None),
                (("load", 4, 1, 0), 4, ()), (("store", 2, 0, 1), 2, ("pen[]",)), (("tell", 1), 1, ("book",))):
            expected = before[:spot] + (held,) + before[spot + 1:]
            self.assertEqual(row_at(1, step, RETURN, params=params, size=5), expected, step)
            self.assertEqual(row_at(0, step, RETURN, params=params, size=5), before, step)

    def test_where_instructions_lead(self):
        before = (("own",), ("book",), None, None)
        null, pen = (("own",), (), None, None), (("own",), ("pen",), None, None)
        for step, follows, there in (
                (("jump", 2), None, before), (("choose", 2), before, before), (RETURN, None, None),
                (("ifnull", 1, 2), before, null), (("ifis", 1, "pen", 2), before, pen),
                (("tell", 1), before, None), (("store", 1, 0, 1), before, None)):
            table = least_table("own", made(step, RETURN, RETURN, params=["book"]))
            self.assertEqual(table, (before, follows, there), step)

    def test_where_both_ways_meet(self):
        table = least_table("own", made(("ifis", 1, "pen", 1), RETURN, params=["book"]))
        self.assertEqual(table[1][1], ("book", "pen"))
        table = least_table("own", made(("ifnull", 1, 1), RETURN, params=["book"]))
        self.assertEqual(table[1][1], ("book",))
        table = least_table("own", made(("ifnull", 3, 1), RETURN))
        self.assertEqual(table[1][3], None)

    def test_sets_that_meet(self):
        def met(one, other):
            return row_at(4, ("choose", 3), one, ("jump", 4), other, RETURN, params=["pen[]"])[2]

        self.assertEqual(met(("new", 2, "pen"), ("new", 2, "book")), ("book", "pen"))
        self.assertEqual(met(("new", 2, "pen"), ("array", 2, "pen", 1)), ("pen", "pen[]"))
        self.assertEqual(met(("array", 2, "pen", 1), ("new", 2, "pens")), ("pen[]", "pens"))
        self.assertEqual(met(("new", 2, "pen"), ("null", 2)), ("pen",))
        self.assertEqual(met(("null", 2), ("null", 2)), ())
        self.assertEqual(met(("new", 2, "pen"), ("tell", 0)), None)
        self.assertEqual(met(("null", 2), ("tell", 0)), None)
        self.assertEqual(met(("new", 2, "top"), ("new", 2, "pen")), ("pen", "top"))

    def test_element_names_of_all_arrays(self):
        code = [("choose", 3), ("array", 1, "b", 1), ("jump", 4), ("array", 1, "ab", 1), ("choose", 6), ("jump", 7),
                ("array", 1, "a", 1), ("choose", 9), ("jump", 10), ("new", 1, "c"), ("load", 2, 1, 0), RETURN]
        self.assertEqual(row_at(10, *code)[1], ("a[]", "ab[]", "b[]", "c"))
        self.assertEqual(row_at(11, *code)[2], ("a", "ab", "b"))

    def test_back_to_the_first_row(self):
        code = [("tell", 0), ("new", 1, "pen"), ("new", 2, "pen"), ("choose", 0), RETURN]
        self.assertEqual(row_at(0, *code, params=["book"]), (("own",), ("book", "pen"), None, None))

    def test_what_is_never_reached(self):
        table = least_table("own", made(("jump", 2), ("jump", 1), RETURN))
        self.assertEqual([row is None for row in table], [False, True, False])
        self.assertEqual(least_table("own", made(("jump", 0), RETURN))[1], None)

    def test_wrong_methods_have_one(self):
        self.assertEqual(least_table("own", made(("tell", 3), ("new", 1, "pen"), ("tell", 1), size=4)),
                         ((("own",), None, None, None),) * 2 + ((("own",), ("pen",), None, None),))

    def test_against_a_slow_reckoning(self):
        chance = random.Random(7)
        met = set()
        for _ in range(1500):
            method = slow_sets.one_method(chance)
            rows = slow_sets.least("own", method)
            self.assertEqual(least_table("own", method), slow_sets.plain(rows))
            met.update(step[0] for step, row in zip(method.code, rows) if row is not None)
        self.assertEqual(met, {sample[0] for sample, _ in SAMPLES})

    def test_long_methods_against_a_slow_reckoning(self):
        chance = random.Random(8)
        for words in (slow_sets.WORDS, ("new", "move", "move", "choose", "choose", "ifis", "load", "array")):
            for _ in range(60):
                method = slow_sets.one_method(chance, 40, 10, words)
                self.assertEqual(least_table("own", method), slow_sets.plain(slow_sets.least("own", method)))


class TestClosedTables(unittest.TestCase):
    def test_the_least_one_and_greater_ones(self):
        chance = random.Random(9)
        greater = 0
        for _ in range(600):
            method = slow_sets.one_method(chance)
            first = slow_sets.least("own", method)
            self.assertIs(is_closed("own", method, slow_sets.plain(first)), True)
            rows = slow_sets.more_than(chance, "own", method)
            self.assertIs(is_closed("own", method, slow_sets.plain(rows)), True)
            self.assertTrue(slow_sets.table_within(first, rows))
            greater += rows != first
        self.assertGreater(greater, 300)

    def test_tables_bent_at_one_place(self):
        chance = random.Random(10)
        answers = []
        for _ in range(1500):
            method = slow_sets.one_method(chance)
            first = slow_sets.least("own", method)
            rows = slow_sets.bent(chance, method, chance.choice((first, slow_sets.more_than(chance, "own", method))))
            answer = slow_sets.closed("own", method, rows)
            self.assertIs(is_closed("own", method, slow_sets.plain(rows)), answer)
            if answer:
                self.assertTrue(slow_sets.table_within(first, rows))
            answers.append(answer)
        self.assertGreater(min(answers.count(True), answers.count(False)), 200)

    def test_bent_by_hand(self):
        method = made(("new", 1, "pen"), ("jump", 4), ("null", 1), RETURN, ("choose", 0), RETURN, size=2)
        first, other = (("own",), None), (("own",), ("pen",))
        good = (first, other, None, None, other, other)
        self.assertEqual(least_table("own", method), good)
        for index, row, answer in (
                (0, other, False), (0, None, False), (0, (None, None), False), (0, (("own", "pen"), None), False),
                (0, ((), None), False), (1, (("own",), None), False), (1, (("own",), ()), False),
                (1, None, False), (2, first, False), (3, first, True), (3, (None, None), True), (3, ((), ()), True),
                (4, (("own",), ("item", "pen")), False), (5, (("own",), ("item", "pen")), True),
                (5, (None, ("pen",)), True), (5, (("own",), ("item",)), False), (5, None, False)):
            table = good[:index] + (row,) + good[index + 1:]
            self.assertIs(is_closed("own", method, table), answer, (index, row))

    def test_unreached_rows_lead_too(self):
        method = made(RETURN, ("null", 0), RETURN, size=1)
        for row, after, answer in (((("own",),), None, False), ((("own",),), ((),), True), (None, ((),), True),
                                   ((None,), (("own",),), True), (None, None, True)):
            self.assertIs(is_closed("own", method, ((("own",),), row, after)), answer)

    def test_the_owner_counts(self):
        table = least_table("own", made(RETURN))
        self.assertIs(is_closed("own", made(RETURN), table), True)
        self.assertIs(is_closed("other", made(RETURN), table), False)
        self.assertIs(is_right("other", made(RETURN), table), False)

    def test_what_is_no_table(self):
        method = made(("new", 1, "pen"), RETURN, size=2)
        first, second = least_table("own", method)
        self.assertIs(is_closed("own", method, (first, second)), True)
        wrong = [value for value in no_types() if value is not None]
        tables = no_names() + [(), (first,), (first, second, None), (first, second, second), [first, second],
                               {0: first, 1: second}, (second, first), ((first, second),)]
        tables += [(first, row) for row in wrong] + [(row, second) for row in wrong]
        tables += [(first, row) for row in ((("own",),), (("own",), ("pen",), None), [("own",), ("pen",)])]
        for held in wrong + [["pen"], {"pen"}, "pen", ("pen", "item"), ("pen", "pen"), ("item", "pen", "item"),
                             ("pen[]", "pen"), (("pen",),), ("pen", None), {"pen": "pen"}, iter(("pen",))]:
            if not (type(held) is tuple and len(held) == 0):
                tables.append((first, (("own",), held)))
        tables += [(first, (("own",), (kind, "pen"))) for kind in no_types()]
        tables += [(first, (("own",), ("pen", kind))) for kind in no_types()]
        for table in tables:
            self.assertIs(is_closed("own", method, table), False)
            self.assertIs(is_right("own", method, table), False)
            with self.assertRaises(InvalidTable) as caught:
                needs("own", method, table)
            self.assertIs(caught.exception.given, table)
        for held in (("item", "pen", "pen[]"), ("pen", "pen[]", "pens"), ("pen", "top", "top[]"), None):
            self.assertIs(is_closed("own", method, (first, (("own",), held))), True)

    def test_sets_of_many_types(self):
        names = tuple(sorted("n" + "".join(chr(97 + k // n % 26) for n in (676, 26, 1)) for k in range(5000)))
        method = made(*[("choose", at) for at in range(39)], RETURN, size=3, params=["n", "n"])
        row = (("own",), ("n",) + names, ("n",) + names)
        started = time.perf_counter()
        self.assertIs(is_closed("own", method, (row,) * 40), True)
        self.assertIs(is_closed("own", method, (row,) * 39 + ((("own",), names, names),)), False)
        self.assertLess(time.perf_counter() - started, 20)


class TestReasons(unittest.TestCase):
    def test_unset(self):
        for step, spot in ((("move", 0, 3), 3), (("tell", 3), 3), (("ifnull", 3, 1), 3), (("ifis", 3, "pen", 1), 3),
                           (("cast", 0, 3, "pen"), 3), (("get", 1, 3, "pen", "f", "top"), 3),
                           (("put", 3, "own", "f", "top", 0), 3), (("put", 0, "own", "f", "top", 3), 3),
                           (("put", 2, "own", "f", "top", 3), 2), (("call", 1, 3, "own", "m", (), "top", ()), 3),
                           (("call", 1, 0, "own", "m", ("top", "top"), "top", (0, 3)), 3),
                           (("call", 1, 2, "own", "m", ("top", "top"), "top", (3, 1)), 2),
                           (("call", 1, 0, "own", "m", ("top", "top"), "top", (3, 1)), 3),
                           (("ask", 1, 3, "own", "m", (), "top", ()), 3),
                           (("ask", 1, 2, "own", "m", ("top", "top"), "top", (3, 1)), 2),
                           (("ask", 1, 0, "own", "m", ("top", "top"), "top", (0, 3)), 3),
                           (("return", 3), 3), (("load", 1, 3, 0), 3), (("store", 3, 0, 0), 3), (("store", 3, 0, 2), 3)):
            self.assertEqual(reason(step, RETURN), ("unset", 0, spot), step)
        self.assertEqual(reason(("array", 1, "pen", 1), ("store", 1, 0, 3), RETURN), ("unset", 1, 3))

    def test_what_uses_nothing(self):
        for step in (("new", 3, "pen"), ("array", 3, "pen", 1), ("null", 3), ("jump", 1), ("choose", 1)):
            self.assertEqual(reason(step, RETURN), None)
        self.assertEqual(reason(("ask", 3, 0, "sold", "cost", (), "top", ()), RETURN), None)

    def test_never(self):
        params = ("book", "top", "book[]", "top[]")
        for spot, kind, asked, answer in (
                (1, "book", "book[]", True), (1, "book", "top[]", True), (1, "book", "item", False),
                (1, "book", "book", False), (1, "book", "top", False), (2, "top", "book", True),
                (2, "top", "top[]", True), (2, "top", "top", False), (3, "book[]", "book", True),
                (3, "book[]", "item[]", False), (3, "book[]", "top[]", False), (3, "book[]", "top", False),
                (4, "top[]", "book[]", True), (4, "top[]", "top[]", False), (4, "top[]", "top", False),
                (4, "top[]", "book", True)):
            wrong = ("never", 0, kind, asked) if answer else None
            self.assertEqual(reason(("return", spot), params=params, size=5, result=asked), wrong)
            call = ("call", 0, 0, "own", "m", (asked,), "top", (spot,))
            self.assertEqual(reason(call, RETURN, params=params, size=5), wrong)
            ask = ("ask", 0, spot, "sold", "m", (asked,), "top", (spot,))
            self.assertEqual(reason(ask, RETURN, params=params, size=5), wrong)
            self.assertEqual(reason(("put", 0, "own", "f", asked, spot), RETURN, params=params, size=5), wrong)
            if not asked.endswith("[]"):
                for step in (("get", 0, spot, asked, "f", "top"), ("put", spot, asked, "f", "top", 0),
                             ("call", 0, spot, asked, "m", (), "top", ())):
                    self.assertEqual(reason(step, RETURN, params=params, size=5), wrong)

    def test_arrays(self):
        params = ("book", "top", "book[]", "top[]")
        for spot, wrong in ((1, ("never", 0, "book", "[]")), (2, ("never", 0, "top", "[]")), (3, None), (4, None),
                            (0, ("never", 0, "own", "[]"))):
            self.assertEqual(reason(("load", 5, spot, 0), RETURN, params=params, size=6), wrong)
            self.assertEqual(reason(("store", spot, 0, 0), RETURN, params=params, size=6), wrong)
            self.assertEqual(reason(("store", spot, 0, 5), RETURN, params=params, size=6), wrong or ("unset", 0, 5))
        self.assertEqual(reason(("null", 1), ("load", 1, 1, 0), ("store", 1, 0, 1), RETURN), None)

    def test_ascending_order(self):
        code = [("choose", 3), ("new", 1, "pen"), ("jump", 4), ("array", 1, "item", 1), ("choose", 6), ("jump", 7),
                ("array", 1, "zoo", 1)]
        self.assertEqual(reason(*code, ("return", 1), result="book"), ("never", 7, "item[]", "book"))
        self.assertEqual(reason(*code, ("return", 1), result="item[]"), ("never", 7, "pen", "item[]"))
        self.assertEqual(reason(*code, ("load", 2, 1, 0), RETURN), ("never", 7, "pen", "[]"))
        more = code + [("choose", 9), ("jump", 10), ("new", 1, "abc")]
        self.assertEqual(reason(*more, ("load", 2, 1, 0), RETURN), ("never", 10, "abc", "[]"))

    def test_empty_sets_are_used_as_anything(self):
        for step in (("get", 1, 1, "pen", "f", "top"), ("put", 1, "pen", "f", "pen[]", 1), ("load", 2, 1, 0),
                     ("store", 1, 0, 1), ("call", 2, 1, "pen", "m", ("pen[]",), "top", (1,)), ("return", 1)):
            self.assertEqual(reason(("null", 1), step, ("null", 0), RETURN, result="pen[]", size=3), None)

    def test_end(self):
        for step in (("tell", 0), ("new", 0, "pen"), ("choose", 0), ("ifnull", 0, 0), ("ifis", 0, "pen", 0),
                     ("put", 0, "own", "f", "top", 0), ("cast", 0, 0, "pen")):
            self.assertEqual(reason(step), ("end", 0))
            self.assertEqual(reason(("jump", 1), step), ("end", 1))
        self.assertEqual(reason(("jump", 0)), None)
        self.assertEqual(reason(RETURN), None)
        self.assertEqual(reason(RETURN, ("tell", 3)), None)

    def test_end_is_last(self):
        self.assertEqual(reason(("tell", 3)), ("unset", 0, 3))
        self.assertEqual(reason(("store", 0, 0, 3)), ("never", 0, "own", "[]"))
        self.assertEqual(reason(("choose", 2), ("tell", 0), ("tell", 2)), ("unset", 2, 2))

    def test_first_by_index(self):
        self.assertEqual(reason(("jump", 2), ("tell", 3), ("tell", 2), ("jump", 1)), ("unset", 1, 3))
        self.assertEqual(reason(("jump", 2), ("return", 1), ("choose", 1), ("return", 2)), ("unset", 1, 1))

    def test_order_of_uses(self):
        kinds = {"params": ("book[]", "pen[]"), "size": 4}
        self.assertEqual(reason(("put", 1, "pen", "f", "item", 2), RETURN, **kinds), ("never", 0, "book[]", "pen"))
        self.assertEqual(reason(("put", 0, "pen", "f", "item", 2), RETURN, **kinds), ("never", 0, "pen[]", "item"))
        call = ("call", 3, 1, "pen", "m", ("item", "book"), "top", (2, 1))
        self.assertEqual(reason(call, RETURN, **kinds), ("never", 0, "book[]", "pen"))
        ask = ("ask", 3, 1, "pen", "m", ("item", "book"), "top", (2, 1))
        self.assertEqual(reason(ask, RETURN, **kinds), ("never", 0, "pen[]", "item"))
        self.assertEqual(reason(("ask", 3, 1, "pen", "m", ("top", "book"), "top", (2, 1)), RETURN, **kinds),
                         ("never", 0, "book[]", "book"))

    def test_what_an_instruction_gives_is_not_what_it_uses(self):
        self.assertEqual(reason(("move", 3, 3), RETURN), ("unset", 0, 3))
        self.assertEqual(reason(("cast", 3, 3, "pen"), RETURN), ("unset", 0, 3))
        self.assertEqual(reason(("load", 1, 1, 0), RETURN, params=["pen[]"]), None)

    def test_against_a_slow_reckoning(self):
        chance = random.Random(11)
        found = {}
        for _ in range(2500):
            method = slow_sets.one_method(chance, 8, 3)
            wrong = slow_sets.first_wrong(method, slow_sets.least("own", method))
            self.assertEqual(wrong_reason("own", method), wrong)
            word = None if wrong is None else wrong[0]
            found[word] = found.get(word, 0) + 1
        self.assertEqual(set(found), {None, "unset", "never", "end"})
        self.assertGreater(min(found.values()), 30)


class TestRightTables(unittest.TestCase):
    def test_against_a_slow_reckoning(self):
        chance = random.Random(12)
        counts = {}
        for _ in range(3000):
            method = slow_sets.one_method(chance, 6, 3)
            rows = chance.choice((slow_sets.least("own", method), slow_sets.more_than(chance, "own", method)))
            if chance.random() < 0.2:
                rows = slow_sets.bent(chance, method, rows)
            table = slow_sets.plain(rows)
            closed = slow_sets.closed("own", method, rows)
            right = closed and slow_sets.first_wrong(method, rows) is None
            self.assertIs(is_right("own", method, table), right)
            counts[(closed, right)] = counts.get((closed, right), 0) + 1
            if right:
                self.assertEqual(needs("own", method, table), slow_sets.all_needs(method, rows))
            else:
                with self.assertRaises(InvalidTable) as caught:
                    needs("own", method, table)
                self.assertIs(caught.exception.given, table)
        self.assertEqual(set(counts), {(True, True), (True, False), (False, False)})
        self.assertGreater(min(counts.values()), 100)

    def test_the_least_table_of_a_right_method(self):
        method = made(("new", 1, "pen"), ("return", 1), result="item")
        self.assertIs(is_right("own", method, least_table("own", method)), True)
        wrong = made(("return", 1))
        self.assertIs(is_closed("own", wrong, least_table("own", wrong)), True)
        self.assertIs(is_right("own", wrong, least_table("own", wrong)), False)

    def test_greater_tables(self):
        method = made(("new", 1, "pen"), ("return", 1), result="item", size=3)
        first, second = least_table("own", method)
        for held, right in ((("book", "pen"), True), (("pen", "top"), False), (("pen", "pen[]"), False), (None, False)):
            self.assertIs(is_right("own", method, (first, (("own",), held, None))), right)
        self.assertIs(is_right("own", method, (first, ((), ("pen",), None))), False)
        self.assertIs(is_right("own", method, (first, (None, ("pen",), None))), True)

    def test_rows_that_are_never_reached(self):
        method = made(RETURN, ("return", 1), ("tell", 0), size=2)
        row = (("own",), None)
        self.assertIs(is_right("own", method, (row, None, None)), True)
        self.assertIs(is_right("own", method, (row, row, None)), False)
        self.assertIs(is_right("own", method, (row, (None, ("pen",)), None)), True)
        self.assertIs(is_right("own", method, (row, None, row)), False)


class TestNeeds(unittest.TestCase):
    def test_each_use(self):
        params = ("book", "pen[]", "top")
        for step, expected in (
                (("get", 4, 1, "item", "f", "zoo"), [("book", "item")]),
                (("put", 1, "item", "f", "zoo", 0), [("book", "item"), ("own", "zoo")]),
                (("put", 0, "own", "f", "zoo[]", 2), [("pen", "zoo")]),
                (("call", 4, 1, "item", "m", ("zoo", "book"), "x", (0, 1)), [("book", "item"), ("own", "zoo")]),
                (("call", 4, 0, "item", "m", ("zoo[]", "top", "item"), "x", (2, 3, 0)), [("own", "item"), ("pen", "zoo")]),
                (("ask", 4, 1, "item", "m", ("zoo", "zoo[]"), "x", (1, 2)), [("book", "zoo"), ("pen", "zoo")]),
                (("cast", 4, 1, "zoo"), []), (("ifis", 1, "zoo", 1), []), (("move", 4, 1), []), (("tell", 1), []),
                (("load", 4, 2, 0), []), (("store", 2, 0, 1), []), (("ifnull", 1, 1), []), (("new", 4, "zoo"), []),
                (("put", 1, "top", "f", "top[]", 2), []), (("put", 1, "book", "f", "pen[]", 2), [])):
            expected = tuple((one, other, 0) for one, other in expected)
            self.assertEqual(needed(step, RETURN, params=params, size=5), expected, step)
        self.assertEqual(needed(("return", 1), params=params, result="item"), (("book", "item", 0),))
        self.assertEqual(needed(("return", 2), params=params, result="item[]"), (("pen", "item", 0),))
        self.assertEqual(needed(("return", 3), params=params), ())

    def test_order_and_once(self):
        code = [("choose", 3), ("new", 1, "pen"), ("jump", 4), ("new", 1, "book"),
                ("call", 2, 1, "item", "m", ("item", "zoo", "book"), "x", (1, 0, 1)), ("jump", 7), ("new", 1, "a"),
                ("put", 0, "zoo", "f", "item", 1), ("return", 1)]
        self.assertEqual(needed(*code, result="item"), (
            ("book", "item", 4), ("pen", "item", 4), ("own", "zoo", 4), ("pen", "book", 4),
            ("own", "zoo", 7), ("book", "item", 7), ("pen", "item", 7), ("book", "item", 8), ("pen", "item", 8)))

    def test_of_a_greater_table(self):
        method = made(("new", 1, "pen"), ("return", 1), ("return", 0), result="item", size=2)
        first, second, third = least_table("own", method)
        self.assertEqual(needs("own", method, (first, second, third)), (("pen", "item", 1),))
        more = (("own",), ("book", "item", "pen"))
        self.assertEqual(needs("own", method, (first, more, more)),
                         (("book", "item", 1), ("pen", "item", 1), ("own", "item", 2)))

    def test_an_array_and_its_name_need_the_same(self):
        code = [("choose", 3), ("new", 1, "pen"), ("jump", 4), ("new", 1, "zoo"), ("array", 2, "pen", 1),
                ("call", 3, 0, "own", "m", ("item[]", "item"), "x", (2, 1)), RETURN]
        self.assertEqual(needed(*code), (("pen", "item", 5), ("zoo", "item", 5)))


class TestArguments(unittest.TestCase):
    def check_raises(self, error, given, call, *args):
        with self.assertRaises(ClassError) as caught:
            call(*args)
        self.assertIs(type(caught.exception), error)
        self.assertIs(caught.exception.given, given)

    def test_owners(self):
        for wrong in no_names():
            for call in (least_table, wrong_reason):
                self.check_raises(InvalidName, wrong, call, wrong, made(RETURN))
                self.check_raises(InvalidName, wrong, call, wrong, wrong)
            for call in (is_closed, is_right, needs):
                self.check_raises(InvalidName, wrong, call, wrong, made(RETURN), ())
                self.check_raises(InvalidName, wrong, call, wrong, wrong, wrong)

    def test_methods(self):
        for wrong in no_methods():
            for call in (least_table, wrong_reason):
                self.check_raises(InvalidMethod, wrong, call, "own", wrong)
            for call in (is_closed, is_right, needs):
                self.check_raises(InvalidMethod, wrong, call, "own", wrong, ())
                self.check_raises(InvalidMethod, wrong, call, "own", wrong, wrong)

    def test_any_object_as_a_table(self):
        for value in no_names() + [AlwaysEqual(), NeverAsked(), made(RETURN)]:
            self.assertIs(is_closed("own", made(RETURN), value), False)
            self.assertIs(is_right("own", made(RETURN), value), False)
            self.check_raises(InvalidTable, value, needs, "own", made(RETURN), value)

    def test_by_name(self):
        method = made(("new", 1, "pen"), ("return", 1), result="item")
        table = least_table(method=method, owner="own")
        self.assertEqual(table, least_table("own", method))
        self.assertIs(wrong_reason(method=method, owner="own"), None)
        self.assertIs(is_closed(value=table, method=method, owner="own"), True)
        self.assertIs(is_right(value=table, method=method, owner="own"), True)
        self.assertEqual(needs(table=table, method=method, owner="own"), (("pen", "item", 1),))


class TestTime(unittest.TestCase):
    def test_many_rounds(self):
        # Behind the first nine, two instructions each lead back to the two ahead of them,
        # and each round through all of them moves the names by one register.
        code = [("null", spot) for spot in range(1, 10)]
        for at in range(15):
            step = ("ifis", 0, "abcdef"[at], len(code) + 1) if at < 6 else ("move", at - 5, at - 6)
            code += [step, ("choose", len(code) - 2 if at > 0 else 37)]
        table = self.check_time(code + [("jump", 37)])
        for row in table[10:]:
            self.assertEqual(row, (("a", "b", "c", "d", "e", "f", "own"),) * 10)

    def test_the_slowest_that_chance_found(self):
        code = [("null", spot) for spot in range(5, 10)] + [
            ("move", 9, 3), ("choose", 9), ("choose", 23), ("new", 7, "ba"), ("move", 8, 0), ("move", 2, 4),
            ("choose", 0), ("move", 1, 2), ("choose", 24), ("choose", 4), ("move", 3, 8), ("move", 6, 2), ("choose", 21),
            ("new", 8, "cc"), ("new", 3, "cd"), ("move", 7, 6), ("new", 5, "cf"), ("choose", 34), ("choose", 29),
            ("choose", 19), ("move", 5, 4), ("choose", 11), ("move", 4, 6), ("move", 2, 3), ("choose", 22),
            ("new", 1, "dg"), ("move", 6, 5), ("move", 0, 7), ("new", 2, "eb"), ("move", 3, 1), ("new", 1, "ed"),
            ("choose", 21), ("new", 6, "ef"), ("new", 5, "eg"), ("choose", 6)]
        table = self.check_time(code, ("a", "b", "c", "d"))
        self.assertGreater(sum(len(held or ()) for row in table if row for held in row), 2000)

    def check_time(self, code, params=()):
        method = Method("m", params, "top", 10, code)
        started = time.perf_counter()
        for _ in range(5):
            table = least_table("own", method)
            wrong_reason("own", method)
            is_right("own", method, table)
        self.assertLess(time.perf_counter() - started, 10)
        self.assertEqual(table, slow_sets.plain(slow_sets.least("own", method)))
        return table


if __name__ == "__main__":
    unittest.main()
