"""Questions about a machine, of which none changes it."""

from lateclasses.classes import ClassText
from lateclasses.errors import ClassError, Failing, InvalidClass, NotLoaded
from lateclasses.running import Report
from lateclasses.tables import require_loader
from lateclasses.words import is_name

# The reasons that lead to another identity.
LEADING = ("above", "eager")


def why(machine, identity):
    """Return why an identity is loaded: a list of tuples (identity, reason)."""
    if identity not in machine:
        raise NotLoaded(identity)
    found = []
    at = identity
    while at is not None:
        reason = machine.reason(at)
        found.append((at, reason))
        at = reason[1] if reason[0] in LEADING and reason[1] in machine else None
    return found


def who(machine, loader, one, other):
    """Return the places that assume (loader, one, other), [] for any other objects."""
    if not is_name(loader) or not is_name(one) or not is_name(other):
        return []
    return list(machine.state_now().assumed.get((loader, one, other), []))


def joined(machine, name, loader, other):
    """Return the shortest chain of equations for a name between two loaders, None if there is none."""
    state = machine.state_now()
    require_loader(state.tables, loader)
    require_loader(state.tables, other)
    if loader == other:
        return ()
    return state.group(name, loader).get(other) if is_name(name) else None


def open_assumptions(machine):
    """Return the assumptions that are not decided, as a list."""
    return machine.state_now().open_assumptions()


def what_fails(machine, loader, name):
    """Return the failure that loading a name would bring now, or None."""
    try:
        machine.copy().load(loader, name)
    except Failing as error:
        return error.failure
    return None


def do_call(machine, name, given):
    """Call a method of a machine by its name, as machine.calls() tells it, and return what it returns."""
    if name == "add_loader":
        return machine.add_loader(given[0], rest=given[1])
    if name == "add_class":
        return machine.add_class(given[0], given[1])
    if name == "ask":
        return machine.ask(given[0], given[1], given[2])
    if name == "bind":
        return machine.bind(given[0], given[1])
    if name == "load":
        return machine.load(given[0], given[1])
    if name == "check":
        return machine.check(given[0], given[1])
    if name == "run":
        loader, word, method, values, choices, limit, keep = given
        return machine.run(loader, word, method, values, choices, limit=limit, keep=keep)
    if name == "forget":
        return machine.forget(given[0])
    if name == "release":
        return machine.release(given[0])
    if name == "unload":
        return machine.unload()
    if name == "take_down":
        return machine.take_down(given[0])
    return machine.bring_up(given[0])


def told_result(result):
    """Return what a call returned, as machine.calls() tells it."""
    if isinstance(result, Report):
        return result.parts()
    return tuple(result) if type(result) == list else result


def outcome_of(machine, name, given):
    """Do a call and return what comes out."""
    try:
        return told_result(do_call(machine, name, given))
    except Failing as error:
        return ("error", error.failure)
    except ClassError:
        return ("error", None)


def exchanged(name, given, loader, text):
    """Return the arguments of a call, with the text instead of the one of the same name that the loader was given."""
    if name == "add_class" and given[0] == loader and given[1].name == text.name:
        return (loader, text)
    return given


def what_if(machine, loader, text):
    """Return which calls bring something else if a class has another text: tuples (index, before, after)."""
    tables = machine.state_now().tables
    require_loader(tables, loader)
    if not isinstance(text, ClassText):
        raise InvalidClass(text)
    # Raises UnknownClass if there is no text to be exchanged.
    tables.text(loader, text.name)
    twin = machine.fresh()
    found = []
    for index, (name, given, before) in enumerate(machine.calls()):
        after = outcome_of(twin, name, exchanged(name, given, loader, text))
        if after != before:
            found.append((index, before, after))
    return found
