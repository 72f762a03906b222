"""Short ways to make machines and tables for tests."""

from lateclasses.eager import EagerMachine
from lateclasses.errors import Failing
from lateclasses.formats import parse_class
from lateclasses.machine import Machine
from lateclasses.tables import Tables


def text(line):
    """The class text of a line in which ; stands for a newline; 'class' is left out."""
    return parse_class("class " + line.replace(";", "\n"))


def fill(target, *lines):
    """Do lines as `loader NAME REST`, `class LOADER TEXT`, `ask LOADER NAME OTHER` on a machine or tables."""
    for line in lines:
        words = line.split(" ")
        if words[0] == "loader":
            target.add_loader(words[1], rest=words[2] if len(words) > 2 else None)
        elif words[0] == "class":
            target.add_class(words[1], text(" ".join(words[2:])))
        else:
            target.ask(*words[1:])
    return target


def machine(*lines):
    return fill(Machine(), *lines)


def eager(*lines):
    return fill(EagerMachine(), *lines)


def tables(*lines):
    return fill(Tables(), *lines)


def failure(call, *given, **named):
    """The failure that a call raises."""
    try:
        call(*given, **named)
    except Failing as error:
        return error.failure
    raise AssertionError("no failure")
