"""A slow reckoning of the reach of a method, written apart from the program by the words of the document."""

from lateclasses.sets import least_table, wrong_reason

TOP = ("", "top")


def chain(tables, identity):
    """The chain by the tables if it is whole, [] if not."""
    found = []
    while identity != TOP:
        if identity is None or identity in found:
            return []
        found.append(identity)
        identity = tables.identity(identity[0], tables.text(*identity).above)
    return found


def declaring(tables, identity, word):
    for one in chain(tables, identity):
        if tables.text(*one).method(word) is not None:
            return one
    return None


def reached(tables, identity, word):
    """The reached instructions of a method: tuples (place, instruction, row); none of a wrong one."""
    method = tables.text(*identity).method(word)
    if wrong_reason(identity[1], method) is not None:
        return []
    table = least_table(identity[1], method)
    return [((*identity, word, index), step, table[index]) for index, step in enumerate(method.code)
            if table[index] is not None]


def look(tables, place, step, row, identity):
    """What a call adds with a class as its object, as a list."""
    kind, _, s, name, word, types, result, _ = step
    whole = chain(tables, identity)
    if not whole:
        return []
    if "top" not in row[s]:
        allowed = [tables.identity(place[0], each) for each in row[s] if "[]" not in each]
        if not any(one in allowed for one in whole):
            return []
    about = tables.identity(place[0], name)
    if about is None or about == TOP:
        return []
    having = whole if kind == "call" else [tables.identity(one[0], mark) for one in whole
                                           for mark in tables.text(*one).marks]
    if about not in having:
        return []
    holder = declaring(tables, identity, word)
    if holder is None:
        return []
    method = tables.text(*holder).method(word)
    if (method.params, method.result) != (types, result):
        return []
    return [("method", holder, word, ("call", place, identity))]


def first(tables, loader, name, word):
    identity = tables.identity(loader, name)
    if identity is None or identity == TOP:
        return []
    found = [("class", identity, ("run",))]
    if declaring(tables, identity, word) is not None:
        found.append(("method", declaring(tables, identity, word), word, ("run",)))
    return found


def adds(tables, entry, before):
    """What an entry adds in its turn, when the turns of those before it have been."""
    found = []
    calls = [call for other in before if other[0] == "method" for call in reached(tables, other[1], other[2])
             if call[1][0] in ("call", "ask")]
    if entry[0] == "class":
        above = tables.identity(entry[1][0], tables.text(*entry[1]).above)
        if above not in (None, TOP):
            found.append(("class", above, ("above", entry[1])))
        for place, step, row in calls:
            found += look(tables, place, step, row, entry[1])
        return found
    for place, step, row in reached(tables, entry[1], entry[2]):
        if step[0] == "new" and tables.identity(place[0], step[2]) not in (None, TOP):
            found.append(("class", tables.identity(place[0], step[2]), ("new", place)))
        if step[0] in ("call", "ask"):
            for other in before:
                if other[0] == "class":
                    found += look(tables, place, step, row, other[1])
    return found


def key(entry):
    return entry[:2] if entry[0] == "class" else entry[:3]


def reach(tables, loader, name, word):
    found = first(tables, loader, name, word)
    turn = 0
    while turn < len(found):
        for entry in adds(tables, found[turn], found[:turn]):
            if key(entry) not in [key(other) for other in found]:
                found.append(entry)
        turn += 1
    return tuple(found)


def is_strict(value):
    if type(value) is tuple:
        return all(is_strict(item) for item in value)
    return value is None or type(value) in (str, int)


def is_reach(tables, loader, name, word, value):
    """Whether a tuple is a certificate; each entry is looked for among all that could stand there."""
    if type(value) is not tuple or not all(type(entry) is tuple and is_strict(entry) for entry in value):
        return False
    wanted = list(first(tables, loader, name, word))
    for number, entry in enumerate(value):
        if entry not in wanted or key(entry) in [key(other) for other in value[:number]]:
            return False
        wanted += adds(tables, entry, value[:number])
    return all(key(entry) in [key(other) for other in value] for entry in wanted)
