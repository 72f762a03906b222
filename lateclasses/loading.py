"""How names are bound, loaders joined, classes loaded and methods checked.

Each function here may fail; then the caller undoes all that was begun. What is being
done stands on the trail of the state until it is done.
"""

from lateclasses.sets import find_least_table, first_reason
from lateclasses.state import FIELD, METHOD, method_types
from lateclasses.words import element_of


def class_names(types):
    """Return the class names in types, top left out, in order."""
    names = [kind if element_of(kind) is None else element_of(kind) for kind in types]
    return [name for name in names if name != "top"]


def take_over(state, name, source, identity, group):
    """Bind a name in all loaders of a group, whose ways give this identity, as that of source does, or none."""
    for loader in group:
        found = state.walk(loader, name)[1]
        if found is not None and found != identity:
            chain = state.group(name, source)[loader]
            state.fail("Equation", (name, source, identity, loader, found, chain))
        state.set_meaning(loader, name, identity)


def bind(state, loader, name):
    """Bind a name in a loader and in those that are joined with it, and return its identity."""
    if state.meaning(loader, name) is None:
        state.trail.append(("bind", loader, name))
        found = state.source(loader, name)
        if found is None:
            state.fail("NoClass", (loader, name))
        take_over(state, name, found[0], found[1], list(state.group(name, loader)))
        state.trail.pop()
    return state.meaning(loader, name)


def join(state, name, loader, other, place):
    """Note an equation unless the loaders are joined for the name; tell whether it was noted."""
    if state.is_joined(name, loader, other):
        return False
    state.trail.append(("equation", name, loader, other))
    one, two = state.meaning(loader, name), state.meaning(other, name)
    unbound = list(state.group(name, other if two is None else loader))
    equation = (name, loader, other, place)
    state.add_equation(equation)
    if one is None and two is not None:
        take_over(state, name, other, two, unbound)
    elif one is not None and two is None:
        take_over(state, name, loader, one, unbound)
    elif one != two:
        state.fail("Equation", (name, loader, one, other, two, (equation,)))
    state.trail.pop()
    return True


def load(state, identity, reason):
    """Load an identity with all that is above it."""
    rising = {}
    at = identity
    # A loop instead of recursion, as chains may be long.
    while at not in state.chains:
        state.trail.append(("load", at))
        if at in rising:
            state.fail("Shape", (at, ("circle",)))
        if at[0] in state.off:
            state.fail("Down", (at,))
        rising[at] = reason
        reason = ("above", at)
        at = bind(state, at[0], state.text_of(at).above)
    for waiting in reversed(list(rising)):
        finish_load(state, waiting, rising[waiting])
        state.trail.pop()


def finish_load(state, identity, reason):
    """Load an identity of which the class above is loaded."""
    loader, name = identity
    text = state.text_of(identity)
    above = state.meaning(loader, text.above)
    fault = misfit(state, text, above)
    if fault is not None:
        state.fail("Shape", (identity, fault))
    for mark in text.marks:
        if state.source(loader, mark) is None:
            state.fail("Shape", (identity, ("mark", mark)))
        bind(state, loader, mark)
    for word, at, names in overrides(state, text, above):
        for kind in names:
            join(state, kind, loader, at, (loader, name, word, None))
    bind(state, loader, name)
    state.add_load(identity, reason)


def misfit(state, text, above):
    """Return why the fields or methods of a text do not fit below a loaded class, or None."""
    for word, _ in text.fields:
        if state.member(above, FIELD, word) is not None:
            return ("field", word)
    for method in text.methods:
        # All classes further up agree with the nearest one: they were loaded so.
        found = state.member(above, METHOD, method.name)
        if found is not None and found[1] != method_types(method):
            return ("method", method.name)
    return None


def overrides(state, text, above):
    """Return what the methods of a text need of the nearest classes, from a loaded one up, that have them, too.

    This is a list of tuples (name of the method, loader of that class, class names in the types).
    """
    found = []
    for method in text.methods:
        nearest = state.member(above, METHOD, method.name)
        if nearest is not None:
            found.append((method.name, nearest[0][0], class_names(method_types(method))))
    return found


def check(state, identity, word):
    """Check a method that an identity declares, and return its table."""
    if (identity, word) not in state.checked:
        state.trail.append(("check", identity, word))
        method = state.text_of(identity).method(word)
        table = find_least_table(identity[1], method)
        reason = first_reason(method, table)
        if reason is not None:
            state.fail("Method", (identity, word, reason))
        state.add_check(identity, word, table)
        state.trail.pop()
    return state.checked[(identity, word)]
