"""What is done at the end of each call and of each instruction: the eager work, and closing."""

from lateclasses.codes import FORMS
from lateclasses.loading import bind, check, class_names, join, load
from lateclasses.state import FIELD, METHOD, method_types


def class_of_use(step):
    """Return the class name C of a get, put or call."""
    return step[2] if step[0] == "put" else step[3]


def wanted_member(step):
    """Return (kind, name, types): what a use wants to be declared."""
    if step[0] == "get":
        return (FIELD, step[4], (step[5],))
    if step[0] == "put":
        return (FIELD, step[3], (step[4],))
    return (METHOD, step[4], step[5] + (step[6],))


def objects_of(state, place, step, start):
    """Return the loaded classes for which a use is due; for an ask, from the one numbered start on."""
    if step[0] != "ask":
        identity = state.meaning(place[0], class_of_use(step))
        return [identity] if identity in state.chains else []
    mark = state.meaning(place[0], step[3])
    if mark is None:
        return []
    return [identity for identity in state.order[start:] if mark in state.emblems[identity]]


def wanted(state, place, step, start):
    """Return the equations (name, other loader) that a use wants as far as it is due, in order.

    Of an ask, only those that come from the loaded classes from the one numbered start on.
    """
    kind, word, types = wanted_member(step)
    loaders = {}
    for identity in objects_of(state, place, step, start):
        found = state.member(identity, kind, word)
        if found is not None and found[1] == types:
            loaders[found[0][0]] = True
    names = class_names(types)
    return [(name, loader) for loader in loaders for name in names]


def is_known(state, place, step):
    """Tell whether the name that makes a use due is bound, for a get, put or call to a loaded class."""
    if step[0] == "ask":
        return state.meaning(place[0], step[3]) is not None
    return state.is_live(place[0], class_of_use(step))


def note_use(state, place, step):
    """Note the equations that a use wants and that were not looked for; tell whether one was noted."""
    start = state.settled.get(place, 1) - 1
    if place in state.settled and (step[0] != "ask" or start == len(state.order)):
        return False
    if not is_known(state, place, step):
        return False
    noted = False
    for name, other in wanted(state, place, step, start):
        if join(state, name, place[0], other, place):
            noted = True
    state.settle(place)
    return noted


def note_wanted(state):
    """Note the equations that due uses want until nothing is noted any more."""
    again = True
    while again:
        again = False
        for place, step in list(state.uses.items()):
            if note_use(state, place, step):
                again = True


def decide(state, key):
    """Decide an assumption of which the lower name is live."""
    loader, one, other = key
    state.trail.append(("decide", loader, one, other))
    chain = state.chains[state.meaning(loader, one)]
    if state.source(loader, other) is None or bind(state, loader, other) not in chain:
        state.fail("Refused", (loader, one, other, tuple(state.assumed[key]), chain))
    state.trail.pop()
    state.decide(key)


def close(state):
    """Note what due uses want and decide what can be decided, until there is nothing left."""
    note_wanted(state)
    waiting = state.open_assumptions()
    index = 0
    while index < len(waiting):
        key = waiting[index]
        index += 1
        if state.is_live(key[0], key[1]):
            many = len(state.change)
            decide(state, key)
            # Only what is bound can make a use due, or an assumption live that was passed over.
            if len(state.change) > many:
                note_wanted(state)
                waiting = state.open_assumptions()
                index = 0


def types_of_item(kind, item):
    """Return the types in an item of an instruction, by the letter of its form."""
    if kind in ("C", "T"):
        return [item]
    if kind == "types":
        return list(item)
    return []


def types_of_text(text):
    """Return all types and names of classes in a class text, in its order."""
    found = [text.above] + list(text.marks) + [kind for _, kind in text.fields]
    for method in text.methods:
        found.extend(list(method_types(method)))
        for step in method.code:
            for kind, item in zip(FORMS[step[0]], step[1:]):
                found.extend(types_of_item(kind, item))
    return found


def names_of_text(text):
    """Return the class names in a class text, top left out, each once, in its order."""
    return list({name: True for name in class_names(types_of_text(text))})


def load_all_of(state, identity):
    """Load all that the text of a loaded identity names, and check its methods."""
    text = state.text_of(identity)
    for name in names_of_text(text):
        load(state, bind(state, identity[0], name), ("eager", identity))
    for method in text.methods:
        check(state, identity, method.name)


def load_eagerly(state):
    """Do so for each loaded class, those included that are loaded by this."""
    index = 0
    while index < len(state.order):
        identity = state.order[index]
        if identity not in state.thorough:
            load_all_of(state, identity)
            state.mark_thorough(identity)
        index += 1


def complete(state):
    """Do all that belongs to the end of a call or an instruction."""
    # What changes nothing leaves nothing to do: all was done at the end of the last change.
    if len(state.change) > 0:
        if state.is_eager:
            load_eagerly(state)
        close(state)
