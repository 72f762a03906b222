"""How a class text is written in lines, and read back."""

from lateclasses.classes import ClassText
from lateclasses.codes import FORMS, Method, is_instruction
from lateclasses.errors import ParseError
from lateclasses.words import is_name, is_type

NOTHING = "-"
# Python refuses to read numbers of some thousands of digits.
MOST_DIGITS = 30


def format_item(item):
    """Return an item of an instruction as it is written."""
    if type(item) != tuple:
        return str(item)
    if len(item) == 0:
        return NOTHING
    return ",".join([str(part) for part in item])


def format_instruction(step):
    """Return the line of an instruction."""
    return " ".join([format_item(item) for item in step])


def format_method(method):
    """Return the lines of a method, as a list."""
    head = " ".join(["method", method.name, str(method.size), method.result] + list(method.params))
    return [head] + [format_instruction(step) for step in method.code] + ["end"]


def format_class(text):
    """Return the text of a ClassText."""
    lines = [f"class {text.name} {text.above}"]
    lines.extend([f"mark {mark}" for mark in text.marks])
    lines.extend([f"field {name} {kind}" for name, kind in text.fields])
    for method in text.methods:
        lines.extend(format_method(method))
    return "\n".join(lines)


def read_number(word):
    """Return the integer that a word is in decimal without leading zeros, None if it is none."""
    if not 1 <= len(word) <= MOST_DIGITS or not all(["0" <= digit <= "9" for digit in word]):
        return None
    if len(word) > 1 and word[0] == "0":
        return None
    return int(word)


def split_items(word):
    """Return the words of a list with commas, of which there may be none."""
    if word == NOTHING:
        return []
    return word.split(",")


def read_item(kind, word):
    """Return what a word stands for where an instruction has an item of this kind; it need not fit there."""
    if kind in ("r", "i", "t"):
        return read_number(word)
    if kind == "types":
        return tuple(split_items(word))
    if kind == "args":
        return tuple([read_number(part) for part in split_items(word)])
    return word


def read_instruction(words):
    """Return the instruction that the words of a line are, None if they are none."""
    if words[0] not in FORMS:
        return None
    form = FORMS[words[0]]
    if len(words) != 1 + len(form):
        return None
    items = [read_item(kind, word) for kind, word in zip(form, words[1:])]
    step = tuple([words[0]] + items)
    return step if is_instruction(step) else None


def is_class_line(words):
    """Tell whether the words of a line are of the form of the first line."""
    return len(words) == 3 and words[0] == "class" and is_name(words[1]) and is_name(words[2])


def is_mark_line(words):
    """Tell whether the words of a line are of the form of a mark."""
    return len(words) == 2 and words[0] == "mark" and is_name(words[1])


def is_field_line(words):
    """Tell whether the words of a line are of the form of a field."""
    return len(words) == 3 and words[0] == "field" and is_name(words[1]) and is_type(words[2])


def is_method_line(words):
    """Tell whether the words of a line are of the form of the first line of a method."""
    if len(words) < 4 or words[0] != "method" or not is_name(words[1]) or read_number(words[2]) is None:
        return False
    return all([is_type(word) for word in words[3:]])


def read_code(rows, start):
    """Return the code that begins at start and the index of its end, as a tuple."""
    code = []
    for index in range(start, len(rows)):
        if rows[index] == ["end"]:
            return (tuple(code), index)
        step = read_instruction(rows[index])
        if step is None:
            raise ParseError(index)
        code.append(step)
    raise ParseError(len(rows) - 1)


def read_methods(rows, start):
    """Return the methods, which are all lines from start on: a list of tuples (words of the first line, code)."""
    found = []
    index = start
    while index < len(rows):
        if not is_method_line(rows[index]):
            raise ParseError(index)
        code, end = read_code(rows, index + 1)
        found.append((rows[index], code))
        index = end + 1
    return found


def made_method(words, code):
    """Return the Method of a first line and a code."""
    return Method(words[1], tuple(words[4:]), words[3], read_number(words[2]), code)


def parse_class(text):
    """Return the ClassText of a text."""
    if type(text) != str:
        raise ParseError(None)
    rows = [line.split(" ") for line in text.split("\n")]
    if not is_class_line(rows[0]):
        raise ParseError(0)
    index = 1
    marks = []
    while index < len(rows) and is_mark_line(rows[index]):
        marks.append(rows[index][1])
        index += 1
    fields = []
    while index < len(rows) and is_field_line(rows[index]):
        fields.append((rows[index][1], rows[index][2]))
        index += 1
    # All lines are read before the first method is made: a wrong line comes ahead of a wrong method.
    parts = read_methods(rows, index)
    methods = [made_method(words, code) for words, code in parts]
    return ClassText(rows[0][1], above=rows[0][2], marks=tuple(marks), fields=tuple(fields), methods=tuple(methods))
