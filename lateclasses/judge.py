"""The judge: whether a journal follows from the texts that it tells of, without running anything.

An entry has its ground in the texts and in the entries ahead of it, so the judge goes
through the entries in order and notes each one that it accepts in a state of its own.
"""

from lateclasses.classes import is_own_name
from lateclasses.closing import close, names_of_text, wanted
from lateclasses.errors import ClassError, Failing, InvalidJournal
from lateclasses.formats import format_class, parse_class
from lateclasses.loading import class_names, misfit, overrides
from lateclasses.sets import is_right, least_table
from lateclasses.state import METHOD, State, method_types
from lateclasses.unloading import gone_equations, is_free
from lateclasses.words import ENTRY_DEPTH, are_texts, is_name, is_plain


def is_journal(value):
    """Tell whether any object is a list of tuples of tuples."""
    if type(value) != list or not all([type(change) == tuple for change in value]):
        return False
    return all([type(entry) == tuple for change in value for entry in change])


def has_text(state, identity):
    """Tell whether a plain value is an identity of which there is a text."""
    return are_texts(identity, 2) and identity in state.texts


def is_place(place):
    """Tell whether a plain value has the form of a place."""
    if type(place) != tuple or len(place) != 4 or not are_texts(place[:3], 3):
        return False
    return place[3] is None or type(place[3]) == int


def method_at(state, place):
    """Return the method of a plain value that is a place, None if there is none."""
    if not is_place(place) or not has_text(state, place[:2]):
        return None
    return state.text_of(place[:2]).method(place[2])


class Pending:
    """What a change has to bring yet: classes that are to be loaded, and what is to be looked at in the end."""

    def __init__(self):
        self.wants = []
        self.touched = []
        self.brought = []


def accept_loader(state, pending, name, rest):
    """Take a loader, or raise."""
    state.add_loader(name, rest)
    return True


def accept_class(state, pending, loader, text):
    """Take a class text, or raise."""
    parsed = parse_class(text)
    state.add_class(loader, parsed)
    return format_class(parsed) == text


def accept_ask(state, pending, loader, name, other):
    """Take an ask, or raise."""
    state.add_ask(loader, name, other)
    return True


def accept_release(state, pending, loader):
    """Take a release."""
    if loader not in state.tables or loader in state.given_up:
        return False
    state.give_up(loader)
    return True


def accept_unload(state, pending, names, equations):
    """Take the removal of loaders, at which all ahead of it must be settled."""
    if type(names) != tuple or len(names) == 0 or not is_settled(state, pending):
        return False
    if names != tuple([name for name in state.tables.names if name in names]):
        return False
    if not all([name in state.given_up for name in names]) or not is_free(state, names):
        return False
    found = gone_equations(state, names)
    if tuple(found) != equations:
        return False
    state.remove(names, found)
    return True


def accept_bind(state, pending, loader, name, identity):
    """Take a binding."""
    if loader not in state.tables or not is_own_name(name) or state.meaning(loader, name) is not None:
        return False
    found = state.source(loader, name)
    if found is None or found[1] != identity:
        return False
    state.set_meaning(loader, name, identity)
    pending.touched.append((name, loader))
    return True


def is_wanted_by_use(state, name, loader, other, place):
    """Tell whether a use that is due wants an equation."""
    if place[0] != loader or place not in state.uses:
        return False
    return (name, other) in wanted(state, place, state.uses[place], 0)


def is_wanted_by_override(state, name, loader, other, place):
    """Tell whether a method of a class, of which the class above is loaded, needs an equation."""
    method = method_at(state, place)
    if method is None or place[0] != loader or place[3] is not None:
        return False
    found = state.member(state.meaning(loader, state.text_of(place[:2]).above), METHOD, method.name)
    return found is not None and found[0][0] == other and name in class_names(method_types(method))


def accept_equation(state, pending, name, loader, other, place):
    """Take an equation."""
    if loader not in state.tables or other not in state.tables or not is_name(name):
        return False
    if state.is_joined(name, loader, other) or not is_place(place):
        return False
    if not is_wanted_by_use(state, name, loader, other, place):
        if not is_wanted_by_override(state, name, loader, other, place):
            return False
        pending.wants.append(place[:2])
    state.add_equation((name, loader, other, place))
    pending.touched.append((name, loader))
    return True


def is_ground_above(state, identity, other):
    """Tell whether the class above another one, which is not loaded, is this one."""
    if not has_text(state, other) or other in state.reasons:
        return False
    return state.meaning(other[0], state.text_of(other).above) == identity


def is_ground_new(state, identity, place):
    """Tell whether the instruction of a checked method at a place can make an object of a class."""
    method = method_at(state, place)
    if method is None or (place[:2], method.name) not in state.checked:
        return False
    index = place[3]
    if type(index) != int or not 0 <= index < len(method.code) or method.code[index][0] != "new":
        return False
    if least_table(place[1], method)[index] is None:
        return False
    return state.meaning(place[0], method.code[index][2]) == identity


def is_ground_eager(state, identity, other):
    """Tell whether a loaded class names this one in its text, without being loaded because of this one."""
    if not are_texts(other, 2) or other not in state.reasons:
        return False
    if identity not in [state.meaning(other[0], name) for name in names_of_text(state.text_of(other))]:
        return False
    at = other
    while at in state.reasons:
        reason = state.reasons[at]
        if reason[0] not in ("above", "eager"):
            return True
        at = reason[1]
    return at != identity


def is_ground(state, pending, identity, reason):
    """Tell whether a reason can be that of a load now."""
    if reason in (("asked",), ("run",)):
        return True
    if type(reason) != tuple or len(reason) != 2:
        return False
    if reason[0] == "above":
        pending.wants.append(reason[1])
        return is_ground_above(state, identity, reason[1])
    if reason[0] == "new":
        return is_ground_new(state, identity, reason[1])
    return reason[0] == "eager" and is_ground_eager(state, identity, reason[1])


def accept_load(state, pending, identity, reason):
    """Take a load."""
    if not has_text(state, identity) or identity in state.reasons:
        return False
    loader, name = identity
    text = state.text_of(identity)
    if state.meaning(loader, name) != identity or not state.is_live(loader, text.above):
        return False
    if None in [state.meaning(loader, mark) for mark in text.marks]:
        return False
    if misfit(state, text, state.meaning(loader, text.above)) is not None:
        return False
    if not is_ground(state, pending, identity, reason):
        return False
    state.add_load(identity, reason)
    pending.brought.append(identity)
    return True


def accept_check(state, pending, identity, word, table):
    """Take a check, with any right table."""
    if not are_texts(identity, 2) or identity not in state.reasons:
        return False
    method = state.text_of(identity).method(word)
    if method is None or (identity, word) in state.checked or not is_right(identity[1], method, table):
        return False
    state.add_check(identity, word, table)
    return True


def is_united(state, name, loader):
    """Tell whether all loaders joined with a loader have bound a name to the same identity, or none has."""
    found = state.meaning(loader, name)
    return all([state.meaning(member, name) == found for member in state.group(name, loader)])


def has_joined(state, identity):
    """Tell whether a loaded class is joined with the classes of which it has methods, too."""
    loader = identity[0]
    for _, other, names in overrides(state, state.text_of(identity), state.chains[identity][1]):
        if not all([state.is_joined(name, loader, other) for name in names]):
            return False
    return True


def is_settled(state, pending):
    """Tell whether all that was to be brought is there and everything is closed; then begin anew."""
    if not all([identity in state.reasons for identity in pending.wants]):
        return False
    if not all([is_united(state, name, loader) for name, loader in pending.touched]):
        return False
    if not all([has_joined(state, identity) for identity in pending.brought]):
        return False
    many = len(state.change)
    try:
        close(state)
    except Failing:
        return False
    pending.wants, pending.touched, pending.brought = [], [], []
    return len(state.change) == many


# How many items an entry of each kind has, and what takes it.
SIZES = {"loader": 3, "class": 3, "ask": 4, "release": 2, "unload": 3, "bind": 4, "equation": 5, "load": 3, "check": 4}
KINDS = {
    "loader": accept_loader,
    "class": accept_class,
    "ask": accept_ask,
    "release": accept_release,
    "unload": accept_unload,
    "bind": accept_bind,
    "equation": accept_equation,
    "load": accept_load,
    "check": accept_check,
}


def accept(state, pending, entry):
    """Take an entry if it has its ground, and tell whether it has."""
    if not is_plain(entry, ENTRY_DEPTH) or len(entry) == 0 or type(entry[0]) != str or entry[0] not in KINDS:
        return False
    if len(entry) != SIZES[entry[0]]:
        return False
    action = KINDS[entry[0]]
    given = entry[1:]
    try:
        return action(state, pending, *given)
    except ClassError:
        return False


def accept_change(state, change):
    """Take a change if it follows, and tell whether it does."""
    pending = Pending()
    if len(change) == 0:
        return False
    for entry in change:
        if not accept(state, pending, entry):
            return False
    if not is_settled(state, pending):
        return False
    state.commit()
    return True


def judged(journal):
    """Return the state that a list of tuples of tuples leads to, and the index of the first change that is wrong."""
    state = State(False)
    for index, change in enumerate(journal):
        if not accept_change(state, change):
            return (state, index)
    return (state, None)


def first_wrong(journal):
    """Return the index of the first change that the judge does not accept, or None."""
    if not is_journal(journal):
        raise InvalidJournal(journal)
    return judged(journal)[1]
