"""A console: commands on one line each, that do what a machine does."""

from lateclasses.errors import InvalidCommand, ParseError
from lateclasses.formats import parse_class, read_number, split_items
from lateclasses.machine import MOST_LIMIT, Machine
from lateclasses.questions import open_assumptions, why
from lateclasses.words import is_name

NOTHING = "-"
NULL = "null"
DONE = "ok"


def format_identity(identity):
    """Return an identity as it is written."""
    return f"{identity[1]}@{identity[0]}"


def listed(parts, between):
    """Return texts with something between them, or - if there are none."""
    return between.join(parts) if len(parts) > 0 else NOTHING


def require(right, line):
    """Raise InvalidCommand with the line unless it is right."""
    if not right:
        raise InvalidCommand(line)


def require_names(words, line):
    """Raise InvalidCommand with the line unless all of these words of it are names."""
    require(all([is_name(word) for word in words]), line)


def read_choices(word, line):
    """Return the choices that a word stands for."""
    if word == NOTHING:
        return []
    require(word != "" and all([sign in ("0", "1") for sign in word]), line)
    return [sign == "1" for sign in word]


def read_limit(word, line):
    """Return the limit that a word stands for."""
    number = read_number(word)
    require(number is not None and number <= MOST_LIMIT, line)
    return number


def read_values(word, line):
    """Return the values that a word stands for."""
    items = split_items(word)
    require_names(items, line)
    return [None if item == NULL else item for item in items]


def read_text(written, line):
    """Return the class text that stands in a line."""
    try:
        return parse_class(written.replace(";", "\n"))
    except ParseError:
        raise InvalidCommand(line) from None


def format_ending(ending):
    """Return how a run ended, as it is written."""
    if ending[0] == "returned":
        return f"returned {ending[1]}"
    if ending[0] != "failed":
        return ending[0]
    kind, place = ending[1][0], ending[2]
    if place is None:
        return f"failed {kind}"
    return f"failed {kind} at {place[0]} {place[1]} {place[2]} {place[3]}"


def do_loader(machine, words, line):
    """loader NAME, or loader NAME REST."""
    require(len(words) in (2, 3), line)
    require_names(words[1:], line)
    machine.add_loader(words[1], rest=words[2] if len(words) == 3 else None)
    return DONE


def do_class(machine, words, line):
    """class LOADER TEXT."""
    require(len(words) > 2, line)
    require_names(words[1:2], line)
    machine.add_class(words[1], read_text(" ".join(words[2:]), line))
    return DONE


def do_ask(machine, words, line):
    """ask LOADER NAME OTHER."""
    require(len(words) == 4, line)
    require_names(words[1:], line)
    machine.ask(words[1], words[2], words[3])
    return DONE


def do_release(machine, words, line):
    """release LOADER."""
    require(len(words) == 2, line)
    require_names(words[1:], line)
    machine.release(words[1])
    return DONE


def do_load(machine, words, line):
    """load LOADER NAME."""
    require(len(words) == 3, line)
    require_names(words[1:], line)
    return format_identity(machine.load(words[1], words[2]))


def do_run(machine, words, line):
    """run LOADER NAME METHOD CHOICES LIMIT VALUES, perhaps with KEEP."""
    require(len(words) in (7, 8), line)
    require_names(words[1:4] + words[7:], line)
    choices = read_choices(words[4], line)
    limit = read_limit(words[5], line)
    values = read_values(words[6], line)
    keep = words[7] if len(words) == 8 else None
    report = machine.run(words[1], words[2], words[3], values, choices, limit=limit, keep=keep)
    return "; ".join(report.told + [format_ending(report.ending)])


def do_unload(machine, words, line):
    """unload."""
    require(len(words) == 1, line)
    return listed(machine.unload(), " ")


def do_loaded(machine, words, line):
    """loaded."""
    require(len(words) == 1, line)
    return listed([format_identity(identity) for identity in machine.list_loaded()], " ")


def do_why(machine, words, line):
    """why LOADER NAME."""
    require(len(words) == 3, line)
    require_names(words[1:], line)
    found = why(machine, machine.meaning(words[1], words[2]))
    chain = " < ".join([format_identity(identity) for identity, _ in found])
    return f"{chain} {found[-1][1][0]}"


def do_open(machine, words, line):
    """open."""
    require(len(words) == 1, line)
    return listed([" ".join(assumption) for assumption in open_assumptions(machine)], "; ")


COMMANDS = {
    "loader": do_loader,
    "class": do_class,
    "ask": do_ask,
    "release": do_release,
    "load": do_load,
    "run": do_run,
    "unload": do_unload,
    "loaded": do_loaded,
    "why": do_why,
    "open": do_open,
}


class Console:
    """A console with a machine of its own."""

    def __init__(self):
        self._machine = Machine()

    def execute(self, line):
        """Do what a line says and return the answer."""
        require(type(line) == str and "\n" not in line, line)
        words = line.split(" ")
        require(words[0] in COMMANDS, line)
        action = COMMANDS[words[0]]
        return action(self._machine, words, line)
