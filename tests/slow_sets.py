"""A slow reckoning of tables of sets, written apart from the program, and methods by chance.

Sets are None or frozensets here, rows are lists, or None.
"""

from lateclasses.codes import Method

NAMES = ("item", "book", "pen", "top", "own")
TYPES = NAMES + ("item[]", "book[]", "top[]")
WORDS = ("new", "array", "null", "move", "get", "put", "call", "ask", "cast", "load", "store", "jump", "ifnull",
         "ifis", "choose", "tell", "return")


def joined(one, other):
    return None if one is None or other is None else one | other


def within(one, other):
    return other is None or (one is not None and one <= other)


def changed(row, spot, held):
    row = list(row)
    row[spot] = held
    return row


def steps_from(step, index, row):
    """Where a row leads: a list of (index, row)."""
    match step:
        case ("return", _):
            return []
        case ("jump", t):
            return [(t, row)]
        case ("choose", t):
            return [(index + 1, row), (t, row)]
        case ("ifnull", s, t):
            return [(index + 1, row), (t, changed(row, s, frozenset()))]
        case ("ifis", s, name, t):
            return [(index + 1, row), (t, changed(row, s, frozenset([name])))]
        case ("new", r, name) | ("cast", r, _, name):
            held = frozenset([name])
        case ("array", r, name, _):
            held = frozenset([name + "[]"])
        case ("null", r):
            held = frozenset()
        case ("move", r, s):
            held = row[s]
        case ("get", r, _, _, _, kind) | (("call" | "ask"), r, _, _, _, _, kind, _):
            held = frozenset([kind])
        case ("load", r, a, _):
            held = None if row[a] is None else frozenset(kind[:-2] for kind in row[a] if kind.endswith("[]"))
        case _:
            return [(index + 1, row)]
    return [(index + 1, changed(row, r, held))]


def start(owner, method):
    row = [frozenset([owner])] + [frozenset([kind]) for kind in method.params]
    return row + [None] * (method.size - len(row))


def closed_from(owner, method, rows):
    """The least closed table that is at least as these rows are, by going through all instructions again and again."""
    rows = list(rows)
    first = start(owner, method)
    rows[0] = first if rows[0] is None else [joined(*both) for both in zip(rows[0], first)]
    while True:
        before = list(rows)
        for index, step in enumerate(method.code):
            for target, row in steps_from(step, index, rows[index]) if rows[index] is not None else ():
                if target < len(rows):
                    old = rows[target]
                    rows[target] = list(row) if old is None else [joined(*both) for both in zip(old, row)]
        if rows == before:
            return rows


def least(owner, method):
    return closed_from(owner, method, [None] * len(method.code))


def row_within(one, other):
    return one is None or (other is not None and all(within(*both) for both in zip(one, other)))


def table_within(one, other):
    return all(row_within(*both) for both in zip(one, other))


def closed(owner, method, rows):
    if not row_within(start(owner, method), rows[0]):
        return False
    return all(row_within(led, rows[target]) for index, row in enumerate(rows) if row is not None
               for target, led in steps_from(method.code[index], index, row) if target < len(rows))


def lies(one, other):
    """Whether one type can lie below another: True, False or the two names."""
    if one == other or other == "top":
        return True
    if one.endswith("[]") and other.endswith("[]"):
        return lies(one[:-2], other[:-2])
    if one.endswith("[]") or other.endswith("[]") or one == "top":
        return False
    return (one, other)


def uses(step, result):
    match step:
        case ("move", _, s) | ("cast", _, s, _) | (("tell" | "ifnull"), s, *_) | ("ifis", s, *_):
            return [(s, "any")]
        case ("get", _, s, name, *_):
            return [(s, name)]
        case ("put", s, name, _, kind, v):
            return [(s, name), (v, kind)]
        case ("call", _, s, name, _, kinds, _, args):
            return [(s, name), *zip(args, kinds)]
        case ("ask", _, s, _, _, kinds, _, args):
            return [(s, "any"), *zip(args, kinds)]
        case ("return", s):
            return [(s, result)]
        case ("load", _, a, _):
            return [(a, "[]")]
        case ("store", a, _, v):
            return [(a, "[]"), (v, "any")]
    return []


def findings(method, rows):
    """All reasons and needs in the order of the document: ("wrong", reason) or ("need", need)."""
    found = []
    for index, row in enumerate(rows):
        if row is None:
            continue
        for spot, use in uses(method.code[index], method.result):
            if row[spot] is None:
                found.append(("wrong", ("unset", index, spot)))
                continue
            for kind in sorted(row[spot]):
                answer = use == "any" or (kind.endswith("[]") if use == "[]" else lies(kind, use))
                if answer is False:
                    found.append(("wrong", ("never", index, kind, use)))
                elif answer is not True:
                    found.append(("need", (*answer, index)))
        if any(target == len(rows) for target, _ in steps_from(method.code[index], index, row)):
            found.append(("wrong", ("end", index)))
    return found


def first_wrong(method, rows):
    return next((what for kind, what in findings(method, rows) if kind == "wrong"), None)


def all_needs(method, rows):
    return tuple(dict.fromkeys(what for kind, what in findings(method, rows) if kind == "need"))


def plain(rows):
    """The rows as the program writes a table."""
    return tuple(None if row is None else tuple(None if held is None else tuple(sorted(held)) for held in row)
                 for row in rows)


def one_step(chance, word, size, length):
    def spot():
        return chance.randrange(size)

    def name():
        return chance.choice(NAMES)

    def kind():
        return chance.choice(TYPES)

    if word in ("call", "ask"):
        many = chance.choice((0, 0, 1, 2))
        kinds, args = tuple(kind() for _ in range(many)), tuple(spot() for _ in range(many))
        return (word, spot(), spot(), name(), "m", kinds, kind(), args)
    return {"new": lambda: ("new", spot(), name()), "array": lambda: ("array", spot(), name(), chance.randrange(10)),
            "null": lambda: ("null", spot()), "move": lambda: ("move", spot(), spot()),
            "get": lambda: ("get", spot(), spot(), name(), "f", kind()),
            "put": lambda: ("put", spot(), name(), "f", kind(), spot()),
            "cast": lambda: ("cast", spot(), spot(), name()), "load": lambda: ("load", spot(), spot(), 1),
            "store": lambda: ("store", spot(), 1, spot()), "jump": lambda: ("jump", chance.randrange(length)),
            "ifnull": lambda: ("ifnull", spot(), chance.randrange(length)),
            "ifis": lambda: ("ifis", spot(), name(), chance.randrange(length)),
            "choose": lambda: ("choose", chance.randrange(length)), "tell": lambda: ("tell", spot()),
            "return": lambda: ("return", spot())}[word]()


def one_method(chance, longest=12, widest=5, words=WORDS):
    """A method of instructions by chance, right ones among them."""
    length = chance.randint(1, longest)
    size = chance.randint(1, widest)
    params = tuple(chance.choice(TYPES) for _ in range(chance.randrange(min(size, 5))))
    code = [one_step(chance, chance.choice(words), size, length) for _ in range(length)]
    if chance.random() < 0.8:
        code[-1] = ("return", 0)
    return Method("m", params, chance.choice(("top", "own") + TYPES), size, code)


def more_than(chance, owner, method):
    """A closed table that is greater than the least one at some places."""
    rows = least(owner, method)
    for _ in range(chance.randint(1, 3)):
        index = chance.randrange(len(rows))
        row = list(rows[index] or [frozenset()] * method.size)
        spot = chance.randrange(method.size)
        row[spot] = None if chance.random() < 0.3 else joined(row[spot], frozenset([chance.choice(TYPES)]))
        rows[index] = row
    return closed_from(owner, method, rows)


def bent(chance, method, rows):
    """The rows with another set, or with another row, at one place."""
    rows = [None if row is None else list(row) for row in rows]
    index = chance.randrange(len(rows))
    if rows[index] is None or chance.random() < 0.1:
        rows[index] = None if rows[index] is not None else [frozenset()] * method.size
        return rows
    spot = chance.randrange(method.size)
    held = rows[index][spot]
    choices = [None, frozenset(), joined(held, frozenset([chance.choice(TYPES)]))]
    if held:
        choices.append(held - {chance.choice(sorted(held))})
    rows[index][spot] = chance.choice([choice for choice in choices if choice != held] or choices)
    return rows
