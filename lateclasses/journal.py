"""How a journal is written in lines, read back, recovered from a damaged text, and made a machine again."""

from lateclasses.errors import InvalidJournal, ParseError
from lateclasses.formats import read_number
from lateclasses.judge import first_wrong, is_journal, judged
from lateclasses.machine import Machine
from lateclasses.words import MOST_DEPTH

NOTHING = "-"
QUOTE = "'"
FIRST_CHECK = 7
FACTOR = 131
MODULUS = 1000003


def format_value(value):
    """Return None, an integer, a text or a tuple as it is written."""
    if value is None:
        return NOTHING
    if type(value) == tuple:
        return "(" + " ".join([format_value(item) for item in value]) + ")"
    if type(value) == str:
        return QUOTE + value.replace("\n", ";") + QUOTE
    return str(value)


def check_number(text):
    """Return the check number of a line that has this number and change."""
    check = FIRST_CHECK
    for letter in text:
        check = (check * FACTOR + ord(letter)) % MODULUS
    return check


def format_line(number, change):
    """Return the line of a change."""
    written = format_value(change)
    check = check_number(f"{number} {written}")
    return f"{number} {check} {written}\n"


def format_journal(journal):
    """Return the text of a journal."""
    return "".join([format_line(number, change) for number, change in enumerate(journal)])


def ends_at(text, start, signs):
    """Return the index of the first of some signs from start on, or that of the end."""
    at = start
    while at < len(text) and text[at] not in signs:
        at += 1
    return at


def read_tuple(text, start, depth):
    """Return the tuple whose first item or end stands at start, and the index behind it; None if there is none."""
    found = []
    at = start
    if text[at:at + 1] == ")":
        return ((), at + 1)
    while True:
        read = read_value(text, at, depth)
        if read is None:
            return None
        found.append(read[0])
        at = read[1]
        if text[at:at + 1] == ")":
            return (tuple(found), at + 1)
        if text[at:at + 1] != " ":
            return None
        at += 1


def read_value(text, start, depth):
    """Return the value that is written at start and the index behind it; None if there is none."""
    sign = text[start:start + 1]
    if sign == "(":
        return read_tuple(text, start + 1, depth - 1) if depth > 0 else None
    if sign == QUOTE:
        end = text.find(QUOTE, start + 1)
        return None if end < 0 else (text[start + 1:end].replace(";", "\n"), end + 1)
    if sign == NOTHING:
        return (None, start + 1)
    end = ends_at(text, start, " )")
    number = read_number(text[start:end])
    return None if number is None else (number, end)


def read_change(text):
    """Return the tuple of tuples that a text is, None if it is none."""
    read = read_value(text, 0, MOST_DEPTH)
    if read is None or read[1] != len(text) or type(read[0]) != tuple or not is_journal([read[0]]):
        return None
    return read[0]


def read_line(number, line):
    """Return the change in a whole line of this number, None if the line is not whole."""
    head, _, rest = line.partition(" ")
    check, space, written = rest.partition(" ")
    if space == "" or head != str(number) or check != str(check_number(f"{number} {written}")):
        return None
    return read_change(written)


def whole_lines(text):
    """Return the changes in the whole lines that a text begins with, and whether these are all of it."""
    if type(text) != str:
        raise ParseError(None)
    found = []
    # What stands behind the last newline is no line, or one that is not ended.
    lines = text.split("\n")
    for line in lines[:-1]:
        change = read_line(len(found), line)
        if change is None:
            return (found, False)
        found.append(change)
    return (found, lines[-1] == "")


def parse_journal(text):
    """Return the journal of a text."""
    found, whole = whole_lines(text)
    if not whole:
        raise ParseError(len(found))
    return found


def recovered(text):
    """Return the journal of the longest beginning of whole lines that the judge accepts."""
    found, _ = whole_lines(text)
    wrong = first_wrong(found)
    return found if wrong is None else found[:wrong]


def restored(journal):
    """Return the machine of a journal that the judge accepts."""
    if not is_journal(journal):
        raise InvalidJournal(journal)
    state, wrong = judged(journal)
    if wrong is not None:
        raise InvalidJournal(journal)
    machine = Machine()
    machine.take_state(state)
    return machine
