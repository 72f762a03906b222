import random
import re
import unittest

from lateclasses.classes import ClassText
from lateclasses.codes import Method
from lateclasses.errors import ClassError, InvalidClass, InvalidMethod, ParseError
from lateclasses.formats import format_class, parse_class
from tests.samples import GOOD_NAMES, GOOD_TYPES, Parts, no_names, no_texts
from tests.slow_sets import one_method
from tests.test_codes import SAMPLES

NAME, TYPE, REGISTER, DIGIT = "[a-z]{1,8}", r"[a-z]{1,8}(?:\[\])?", "[0-9]", "[0-9]"
INDEX, NUMBER = "(?:[0-9]|[123][0-9])", "(?:0|[1-9][0-9]*)"
KINDS = {"r": REGISTER, "n": NAME, "T": TYPE, "i": DIGIT, "t": INDEX,
         "S": f"(?:-|{TYPE}(?:,{TYPE}){{0,3}})", "A": f"(?:-|{REGISTER}(?:,{REGISTER})*)"}
STEPS = {step[0]: " ".join([step[0]] + [KINDS[kind] for kind in kinds]) for step, kinds in SAMPLES}


def is_step(line):
    """Whether a line is that of an instruction."""
    words = line.split(" ")
    if not re.fullmatch(STEPS.get(words[0], "(?!)"), line):
        return False
    return words[0] not in ("call", "ask") or many(words[5]) == many(words[7])


def many(word):
    return 0 if word == "-" else len(word.split(","))


def first_wrong_line(text):
    """The line of which ParseError tells, None if there is none: read once more, apart from the program."""
    lines = text.split("\n")
    place = "start"
    for number, line in enumerate(lines):
        if place == "code":
            if line == "end":
                place = "methods"
            elif not is_step(line):
                return number
        elif place == "start":
            if not re.fullmatch(f"class {NAME} {NAME}", line):
                return number
            place = "marks"
        elif place == "marks" and re.fullmatch(f"mark {NAME}", line):
            pass
        elif place in ("marks", "fields") and re.fullmatch(f"field {NAME} {TYPE}", line):
            place = "fields"
        elif re.fullmatch(f"method {NAME} {NUMBER}( {TYPE})+", line):
            place = "code"
        else:
            return number
    return len(lines) - 1 if place == "code" else None


def outcome(text):
    """What parse_class does, in a form that can be compared."""
    try:
        return ("read", parse_class(text))
    except ParseError as error:
        return ("line", error.line)
    except (InvalidMethod, InvalidClass) as error:
        return (type(error).__name__, error.given)


def one_text(chance):
    """A class text of all parts by chance."""
    words = ["item", "book", "pen", "zoo", "a", "abcdefgh", "q", "desk", "top"]
    marks = chance.sample(words[:-1], chance.choice((0, 0, 1, 3, 8)))
    fields = [(name, chance.choice(GOOD_TYPES)) for name in chance.sample(words, chance.choice((0, 0, 1, 2, 8)))]
    methods = []
    for name in chance.sample(words, chance.choice((0, 1, 1, 2, 3))):
        method = one_method(chance, 5, 6)
        methods.append(Method(name, method.params, method.result, method.size, method.code))
    return ClassText(chance.choice(words[:-1]), above=chance.choice(words), marks=marks, fields=fields, methods=methods)


class TestWriting(unittest.TestCase):
    def test_all_parts(self):
        code = [("new", 1, "book"), ("array", 1, "book", 2), ("null", 1), ("move", 1, 2),
                ("get", 1, 2, "book", "left", "item[]"), ("put", 1, "book", "left", "item", 2),
                ("call", 1, 2, "book", "cost", (), "item", ()),
                ("call", 1, 2, "book", "cost", ("item", "pen[]", "top"), "item", (3, 0, 3)),
                ("ask", 1, 2, "sold", "cost", (), "top", ()), ("ask", 1, 2, "sold", "cost", ("item",), "item[]", (3,)),
                ("cast", 1, 2, "book"), ("load", 1, 2, 9), ("store", 1, 0, 2), ("jump", 18), ("ifnull", 1, 10),
                ("ifis", 1, "book", 0), ("choose", 7), ("tell", 1), ("return", 1)]
        methods = [Method("pick", (), "item", 4, code), Method("look", ("item", "pen[]"), "top[]", 10, [("return", 0)])]
        text = ClassText("shelf", above="item", marks=["sold", "new"], fields=[("left", "book"), ("a", "top[]")],
                         methods=methods)
        self.assertEqual(format_class(text).split("\n"), [
            "class shelf item", "mark sold", "mark new", "field left book", "field a top[]", "method pick 4 item",
            "new 1 book", "array 1 book 2", "null 1", "move 1 2", "get 1 2 book left item[]",
            "put 1 book left item 2", "call 1 2 book cost - item -", "call 1 2 book cost item,pen[],top item 3,0,3",
            "ask 1 2 sold cost - top -", "ask 1 2 sold cost item item[] 3", "cast 1 2 book", "load 1 2 9", "store 1 0 2",
            "jump 18", "ifnull 1 10", "ifis 1 book 0", "choose 7", "tell 1", "return 1", "end",
            "method look 10 top[] item pen[]", "return 0", "end"])
        self.assertTrue(parse_class(format_class(text)) == text)

    def test_single_parts(self):
        method = Method("n", (), "top", 1, [("return", 0)])
        for text, written in (
                (ClassText("item"), "class item top"), (ClassText("a", above="b"), "class a b"),
                (ClassText("a", above="a"), "class a a"), (ClassText("a", marks=["b"]), "class a top\nmark b"),
                (ClassText("a", fields=[("top", "top")]), "class a top\nfield top top"),
                (ClassText("a", methods=[method]), "class a top\nmethod n 1 top\nreturn 0\nend"),
                (ClassText("end", above="mark", marks=["class"], fields=[("field", "method")]),
                 "class end mark\nmark class\nfield field method")):
            self.assertEqual(format_class(text), written)
            self.assertTrue(parse_class(written) == text)

    def test_there_and_back(self):
        chance = random.Random(3)
        for _ in range(400):
            text = one_text(chance)
            written = format_class(text)
            self.assertIsNone(first_wrong_line(written))
            self.assertTrue(parse_class(written) == text)
            self.assertEqual(format_class(parse_class(written)), written)


class TestReading(unittest.TestCase):
    def check_line(self, text, line):
        with self.assertRaises(ClassError) as caught:
            parse_class(text)
        self.assertIs(type(caught.exception), ParseError, text)
        self.assertEqual((caught.exception.line, first_wrong_line(text)), (line, line), text)
        self.assertIs(type(caught.exception.line), int)

    def test_no_texts(self):
        for value in no_texts() + [Parts(), ClassText("item"), ["class item top"], b"class item top"]:
            with self.assertRaises(ClassError) as caught:
                parse_class(value)
            self.assertIs(type(caught.exception), ParseError)
            self.assertIsNone(caught.exception.line)

    def test_first_lines(self):
        for line in ("", " ", "class", "class item", "class item top top", "Class item top", "class Item top",
                     "class item Top", "class item top[]", "class item[] top", "class  item top", "class item  top",
                     " class item top", "class item top ", "class item,top", "class abcdefghi top", "class item abcdefghi",
                     "class item 1", "mark item top", "item top", "end", "text item top", "class item -"):
            self.check_line(line, 0)
            self.check_line(line + "\nmark sold", 0)
            self.check_line(line + "\nnone", 0)

    def test_lines_that_are_not_of_their_form(self):
        for line in ("", " ", "mark", "mark ", "mark Sold", "mark sold[]", "mark sold new", "mark  sold", "marks sold",
                     " mark sold", "mark sold ", "mark abcdefghi", "mark 1", "field", "field left", "field left Book",
                     "field left book[][]", "field left[] book", "field left book pen", "field  left book",
                     "field left  book", "field left book ", "fields left book", "method", "method n", "method n 1",
                     "method n top", "method n 01 top", "method n 00 top", "method n -1 top", "method n +1 top",
                     "method n x top", "method n 1 Top", "method n 1 top Book", "method n 1 top book,pen", "method n 1 top -",
                     "method n 1 -", "method N 1 top", "method n[] 1 top", "method n  1 top", "method n 1  top",
                     "method n 1 top ", "method n 1.0 top", "method n 1_0 top", "method n 0x1 top", "end", "return 0",
                     "class item top", "item", "-"):
            self.check_line("class item top\n" + line, 1)
            self.check_line("class item top\n" + line + "\nreturn 0\nend", 1)
            self.check_line("class item top\nmark sold\n" + line, 2)
            self.check_line("class item top\nmark sold\nfield left book\n" + line, 3)
            self.check_line("class item top\nmethod n 1 top\nreturn 0\nend\n" + line, 4)
            self.check_line("class item top\nmethod n 1 top\nreturn 0\nend\n" + line + "\nmethod m 1 top\nend", 4)

    def test_lines_that_cannot_stand_there(self):
        mark, field, method = "mark sold", "field left book", "method n 1 top\nreturn 0\nend"
        for parts, line in (([field, mark], 2), ([method, mark], 4), ([method, field], 4), ([mark, field, mark], 3),
                            ([field, field, mark], 3), ([method, method, field], 7), ([mark, method, mark], 5)):
            self.check_line("\n".join(["class item top"] + parts), line)

    def test_lines_of_code(self):
        for line in ("", " ", "return", "return 0 ", " return 0", "return  0", "return 10", "return -1", "return 00",
                     "return 01", "return +0", "return x", "return 0 0", "Return 0", "returns 0", "new 1", "new 1 Book",
                     "new 1 book[]", "new book 1", "array 1 book", "array 1 book 10", "array 1 book[] 1", "jump", "jump 40",
                     "jump -1", "jump 007", "choose 0 1", "get 0 0 a f", "get 0 0 a f T", "put 0 a f top", "tell 0,0",
                     "call 0 0 a m - top", "call 0 0 a m top -", "call 0 0 a m - top 0", "call 0 0 a m top top -",
                     "call 0 0 a m top,top top 0", "call 0 0 a m top,top top 0,0,0", "call 0 0 a m top, top 0,0",
                     "call 0 0 a m ,top top 0,0", "call 0 0 a m , top ,", "call 0 0 a m  top ", "call 0 0 a m () top ()",
                     "call 0 0 a m a,b,c,d,e top 0,0,0,0,0", "call 0 0 a m top top 10", "call 0 0 a m top top 00",
                     "call 0 0 a m -,- top -,-", "call 0 0 a m top,- top 0,-", "call 0 0 a m top top top", "ask 0 0 a m - top",
                     "call 0 0 a m - - -", "ask 0 0 a[] m - top -", "ask 0 0 a m[] - top -", "ifis 0 0 a", "ifnull 0",
                     "load 0 0 10", "store 0 0", "cast 0 0 top[]", "move 0", "null", "end end", "end ", " end", "End",
                     "method m 1 top", "mark sold", "field left book", "class item top", "('return', 0)", "return 0;end"):
            self.check_line("class item top\nmethod n 1 top\n" + line, 2)
            self.check_line("class item top\nmethod n 1 top\n" + line + "\nreturn 0\nend", 2)
            self.check_line("class item top\nmethod n 1 top\ntell 0\n" + line + "\nend", 3)

    def test_something_missing(self):
        self.check_line("class item top\nmethod n 1 top", 1)
        self.check_line("class item top\nmethod n 1 top\nreturn 0", 2)
        self.check_line("class item top\nmark sold\nfield left book\nmethod n 1 top\nreturn 0", 4)
        self.check_line("class item top\nmethod n 1 top\nreturn 0\nend\nmethod m 1 top\nreturn 0", 5)
        self.check_line("class item top\nmethod n 1 top\nreturn 0\nend\nmethod m 1 top", 4)
        # A wrong method comes behind what is missing, and behind each wrong line.
        self.check_line("class item top\nmethod n 0 top\nend\nmethod m 1 top\nreturn 0", 4)
        self.check_line("class top top\nmark top\nmark sold\nmethod n 0 top\nend\nend", 5)

    def test_newlines_at_the_end(self):
        self.check_line("class item top\n", 1)
        self.check_line("class item top\n\n", 1)
        self.check_line("\nclass item top", 0)
        self.check_line("class item top\nmethod n 1 top\nreturn 0\nend\n", 4)
        self.check_line("class item top\nmethod n 1 top\nreturn 0\n", 3)
        self.check_line("class item top\n\nmark sold", 1)

    def test_names_and_types(self):
        for name in GOOD_NAMES:
            for kind in GOOD_TYPES:
                text = parse_class(f"class item {name}\nfield {name} {kind}\nmethod {name} 3 {kind} {kind} {kind}\njump 0\nend")
                method = Method(name, (kind, kind), kind, 3, [("jump", 0)])
                self.assertTrue(text == ClassText("item", above=name, fields=[(name, kind)], methods=[method]))
        for wrong in no_names():
            if type(wrong) is str and "\n" not in wrong and len(wrong) < 1000:
                self.check_line(f"class {wrong} top", 0)
                self.check_line(f"class item {wrong}", 0)
                self.check_line(f"class item top\nmark {wrong}", 1)
                self.check_line(f"class item top\nfield {wrong} top", 1)
                self.check_line(f"class item top\nmethod {wrong} 1 top\nend", 1)
                self.check_line(f"class item top\nmethod n 1 top\nnew 0 {wrong}\nend", 2)

    def test_long_numbers(self):
        self.check_line("class item top\nmethod n 1 top\nreturn 1000000000000\nend", 2)
        for number in (10 ** 12, 10 ** 30 - 1):
            self.assertEqual(outcome(f"class item top\nmethod n {number} top\nend"), ("InvalidMethod", number))

    def test_long_texts(self):
        lines = ["class item top"] + ["method n 1 top", "end"] * 4000
        self.assertEqual(outcome("\n".join(lines)), ("InvalidMethod", ()))
        self.assertEqual(outcome("\n".join(lines[:-1])), ("line", len(lines) - 2))
        self.assertEqual(outcome("\n".join(lines + ["mark sold"])), ("line", len(lines)))


class TestErrorsBehindTheLines(unittest.TestCase):
    def test_methods(self):
        method = "class item top\nmethod n {} top{}\n{}\nend"
        for size, kinds, code, given in (
                ("1", " a b c d e", "return 0", ("a", "b", "c", "d", "e")), ("0", "", "return 0", 0),
                ("11", "", "return 0", 11), ("1", " a", "return 0", 1), ("2", " a b", "return 0", 2),
                ("0", " a b c d e", "return 0", ("a", "b", "c", "d", "e")),
                ("1", "", "return 1", (("return", 1),)), ("1", "", "jump 1", (("jump", 1),)),
                ("11", "", "return 9\njump 9", 11), ("9", "", "return 9\nreturn 0", (("return", 9), ("return", 0)))):
            self.assertEqual(outcome(method.format(size, kinds, code)), ("InvalidMethod", given))
        self.assertEqual(outcome("class item top\nmethod n 1 top\nend"), ("InvalidMethod", ()))
        for many, wrong in ((40, False), (41, True)):
            text = "\n".join(["class item top", "method n 1 top"] + ["return 0"] * many + ["end"])
            self.assertEqual(outcome(text)[0], "InvalidMethod" if wrong else "read")

    def test_the_first_wrong_method(self):
        methods = ["method a 1 top\nreturn 0\nend", "method b 0 top\nreturn 0\nend", "method c 1 top\nreturn 1\nend",
                   "method d 11 top\nreturn 0\nend"]
        for order, given in (((0, 1, 2, 3), 0), ((0, 2, 1, 3), (("return", 1),)), ((3, 0, 1), 11), ((0, 3, 2), 11)):
            text = "\n".join(["class top top", "mark top", "field a a", "field a a"] + [methods[at] for at in order])
            self.assertEqual(outcome(text), ("InvalidMethod", given))

    def test_classes(self):
        names = "abcdefghi"
        for text, given in (
                ("class top item", "top"), ("class top top\nmark top", "top"), ("class item top\nmark top", ("top",)),
                ("class item top\nmark a\nmark a", ("a", "a")),
                ("class item top\nmark a\nmark a\nfield b c\nfield b c", ("a", "a")),
                ("class item top\nfield b c\nfield b d", (("b", "c"), ("b", "d"))),
                ("class item top" + "".join(f"\nmark {name}" for name in names), tuple(names)),
                ("class item top" + "".join(f"\nfield {name} x" for name in names), tuple((name, "x") for name in names))):
            self.assertEqual(outcome(text), ("InvalidClass", given))
        method = "\nmethod {} 1 top\nreturn 0\nend"
        for used in (names, "aa"):
            kind, given = outcome("class item top" + "".join(method.format(name) for name in used))
            self.assertEqual((kind, [each.name for each in given]), ("InvalidClass", list(used)))
        for many in (8, 9):
            text = "class item top" + "".join(f"\nmark {name}" for name in names[:many])
            self.assertEqual(outcome(text)[0], "read" if many == 8 else "InvalidClass")


class TestChangedTexts(unittest.TestCase):
    def check(self, text):
        line = first_wrong_line(text)
        kind, told = outcome(text)
        if line is not None:
            self.assertEqual((kind, told), ("line", line), text)
        elif kind == "read":
            self.assertEqual(format_class(told), text)
        else:
            self.assertIn(kind, ("InvalidMethod", "InvalidClass"), text)
        return kind

    def changed_words(self, chance, line):
        words = line.split(" ")
        at = chance.randrange(len(words))
        other = chance.choice(("", "-", "0", "1", "39", "40", "01", "end", "mark", "item", "item[]", "top", "a,b", "0,1", "A"))
        return " ".join(chance.choice((words[:at] + [other] + words[at + 1:], words[:at] + words[at + 1:],
                                       words[:at] + [words[at]] + words[at:], words[:at] + [other] + words[at:])))

    def changed_signs(self, chance, line):
        at = chance.randrange(len(line) + 1)
        other = chance.choice(" ,-0129azAZ[]\n_.")
        return chance.choice((line[:at] + other + line[at + 1:], line[:at] + line[at + 1:],
                              line[:at] + line[at:at + 1] + line[at:], line[:at] + other + line[at:]))

    def changed_lines(self, chance, lines):
        at, other = chance.randrange(len(lines)), chance.randrange(len(lines))
        exchanged = list(lines)
        exchanged[at], exchanged[other] = lines[other], lines[at]
        return chance.choice((lines[:at] + lines[at + 1:], lines[:at] + [lines[at]] + lines[at:], exchanged,
                              lines[:at] + [lines[other]] + lines[at:], lines[:at]))

    def test_by_chance(self):
        chance = random.Random(4)
        kinds = []
        for _ in range(6000):
            lines = format_class(one_text(chance)).split("\n")
            at = chance.randrange(len(lines))
            change = chance.randrange(3)
            if change == 0:
                lines[at] = self.changed_words(chance, lines[at])
            elif change == 1:
                lines[at] = self.changed_signs(chance, lines[at])
            else:
                lines = self.changed_lines(chance, lines)
            kinds.append(self.check("\n".join(lines)))
        for kind in ("read", "line", "InvalidMethod", "InvalidClass"):
            self.assertGreater(kinds.count(kind), 20, kind)


class TestArguments(unittest.TestCase):
    def test_by_name(self):
        self.assertEqual(format_class(text=ClassText("item")), "class item top")
        self.assertTrue(parse_class(text="class item top") == ClassText("item"))


if __name__ == "__main__":
    unittest.main()
