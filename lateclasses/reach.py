"""The reach of a method: what a run of it may load and check, found by the tables alone.

A call, or an ask, has a key: what the chain or the marks of a class must have so that an
object of it can be the one that is called. So only those meet that have the same key.
"""

from lateclasses.sets import find_least_table, first_reason
from lateclasses.tables import require_loader, require_name
from lateclasses.words import ENTRY_DEPTH, TOP, is_name, is_plain


class Facts:
    """What is found of classes and methods by the tables; each is looked for once."""

    def __init__(self, tables):
        self.tables = tables
        self.chains_found = {}
        self.keys_found = {}
        self.steps_found = {}

    def text_of(self, identity):
        """Return the class text of an identity."""
        return self.tables.text(identity[0], identity[1])

    def chain_of(self, identity):
        """Return the chain of an identity by the tables as a dict if it is whole, {} if it is not."""
        if identity not in self.chains_found:
            found = {}
            at = identity
            while at is not None and at != TOP and at not in found:
                found[at] = True
                at = self.tables.identity(at[0], self.text_of(at).above)
            self.chains_found[identity] = found if at == TOP else {}
        return self.chains_found[identity]

    def holder_of(self, identity, word):
        """Return the first identity of a whole chain that declares a method of this name, or None."""
        for at in self.chain_of(identity):
            if self.text_of(at).method(word) is not None:
                return at
        return None

    def keys_of(self, identity):
        """Return what calls can ask of an object of a class: a dict of ("call" or "ask", identity)."""
        if identity not in self.keys_found:
            found = {}
            for at in self.chain_of(identity):
                found[("call", at)] = True
                for mark in self.text_of(at).marks:
                    found[("ask", self.tables.identity(at[0], mark))] = True
            self.keys_found[identity] = found
        return self.keys_found[identity]

    def steps_of(self, identity, word):
        """Return the reached instructions of a right method with their rows, by place; none of a wrong one."""
        if (identity, word) not in self.steps_found:
            method = self.text_of(identity).method(word)
            table = find_least_table(identity[1], method)
            wrong = first_reason(method, table) is not None
            rows = [] if wrong else [(index, row) for index, row in enumerate(table) if row is not None]
            loader, name = identity
            self.steps_found[(identity, word)] = {(loader, name, word, index): (method.code[index], row)
                                                  for index, row in rows}
        return self.steps_found[(identity, word)]


class Call:
    """A call or ask that is reached."""

    def __init__(self, facts, place, step, row):
        self.place = place
        self.step = step
        # No class has top, or nothing, as what a call can ask of it.
        self.key = (step[0], facts.tables.identity(place[0], step[3]))
        held = row[step[2]]
        self.takes_all = "top" in held
        names = [facts.tables.identity(place[0], kind) for kind in held if is_name(kind)]
        self.takes = [identity for identity in names if identity is not None]

    def shape(self):
        """Return all that the entries of this call depend on, but for its place."""
        return (self.key, self.takes_all, tuple(self.takes), self.step[4], self.step[5], self.step[6])

    def entry(self, facts, identity):
        """Return the entry that this call adds with an object of a class, or None."""
        if self.key[1] is None or self.key not in facts.keys_of(identity):
            return None
        chain = facts.chain_of(identity)
        if not self.takes_all and not any([at in chain for at in self.takes]):
            return None
        step = self.step
        holder = facts.holder_of(identity, step[4])
        if holder is None:
            return None
        method = facts.text_of(holder).method(step[4])
        if method.params != step[5] or method.result != step[6]:
            return None
        return ("method", holder, step[4], ("call", self.place, identity))


def first_entries(facts, loader, name, word):
    """Return the entries at first."""
    identity = facts.tables.identity(loader, name)
    if identity is None or identity == TOP:
        return []
    found = [("class", identity, ("run",))]
    holder = facts.holder_of(identity, word)
    if holder is not None:
        found.append(("method", holder, word, ("run",)))
    return found


def entry_above(facts, identity):
    """Return the entry that a class adds for the class above it, or None."""
    above = facts.tables.identity(identity[0], facts.text_of(identity).above)
    return None if above is None or above == TOP else ("class", above, ("above", identity))


def entry_new(facts, place, step):
    """Return the entry that an instruction new adds, or None."""
    identity = facts.tables.identity(place[0], step[2])
    return None if identity is None or identity == TOP else ("class", identity, ("new", place))


class Search:
    """The classes and calls whose turn has been, and those of them that can meet.

    Of calls that could add the same classes and methods only the first one is kept.
    """

    def __init__(self, facts):
        self.facts = facts
        self.calls_by_key = {}
        self.classes_by_key = {}
        self.shapes = {}

    def turn_of_class(self, identity):
        """Return the entries that a class adds in its turn, and None for some that it does not."""
        facts = self.facts
        calls = {}
        for key in facts.keys_of(identity):
            self.classes_by_key.setdefault(key, []).append(identity)
            for number, call in self.calls_by_key.get(key, []):
                calls[number] = call
        found = [calls[number].entry(facts, identity) for number in sorted(list(calls))]
        return [entry_above(facts, identity)] + found

    def turn_of_method(self, identity, word):
        """Return the entries that a method adds in its turn, and None for some that it does not."""
        found = []
        for place, (step, row) in self.facts.steps_of(identity, word).items():
            if step[0] == "new":
                found.append(entry_new(self.facts, place, step))
            elif step[0] in ("call", "ask"):
                found.extend(self.meet(Call(self.facts, place, step, row)))
        return found

    def meet(self, call):
        """Return the entries that a call adds with the classes whose turn has been, and let later ones meet it."""
        shape = call.shape()
        if shape in self.shapes:
            return []
        self.shapes[shape] = True
        self.calls_by_key.setdefault(call.key, []).append((len(self.shapes), call))
        return [call.entry(self.facts, identity) for identity in self.classes_by_key.get(call.key, [])]

    def turn(self, entry):
        """Return the entries that an entry adds in its turn; of those of the same class or method perhaps only one."""
        found = self.turn_of_class(entry[1]) if entry[0] == "class" else self.turn_of_method(entry[1], entry[2])
        return [added for added in found if added is not None]


def key_of(entry):
    """Return what of an entry stands only once in a list."""
    return entry[:2] if entry[0] == "class" else entry[:3]


def require(tables, loader, name, method):
    """Raise UnknownLoader or InvalidName unless these are a loader and two names."""
    require_loader(tables, loader)
    require_name(name)
    require_name(method)


def reach(tables, loader, name, method):
    """Return what a run of a method may load and check, as a tuple of entries."""
    require(tables, loader, name, method)
    facts = Facts(tables)
    search = Search(facts)
    found = first_entries(facts, loader, name, method)
    seen = {key_of(entry): True for entry in found}
    index = 0
    while index < len(found):
        added = search.turn(found[index])
        index += 1
        for entry in added:
            if key_of(entry) not in seen:
                seen[key_of(entry)] = True
                found.append(entry)
    return tuple(found)


def is_entry(value):
    """Tell whether any object has the form of an entry."""
    if not is_plain(value, ENTRY_DEPTH) or type(value) != tuple or len(value) == 0:
        return False
    if type(value[-1]) != tuple or len(value[-1]) == 0:
        return False
    return (value[0] == "class" and len(value) == 3) or (value[0] == "method" and len(value) == 4)


def step_at(facts, ahead, place):
    """Return the instruction and row at a plain value if that is a place of a method among these, or None."""
    if type(place) != tuple or len(place) != 4 or ("method", place[:2], place[2]) not in ahead:
        return None
    return facts.steps_of(place[:2], place[2]).get(place)


def is_added(facts, ahead, entry):
    """Tell whether an entry among those of these classes and methods adds this one."""
    reason = entry[-1]
    if reason[0] == "above" and len(reason) == 2:
        return ("class", reason[1]) in ahead and entry_above(facts, reason[1]) == entry
    if reason[0] == "new" and len(reason) == 2:
        found = step_at(facts, ahead, reason[1])
        return found is not None and found[0][0] == "new" and entry_new(facts, reason[1], found[0]) == entry
    if reason[0] == "call" and len(reason) == 3 and ("class", reason[2]) in ahead:
        found = step_at(facts, ahead, reason[1])
        if found is not None and found[0][0] in ("call", "ask"):
            return Call(facts, reason[1], found[0], found[1]).entry(facts, reason[2]) == entry
    return False


def is_reach(tables, loader, name, method, value):
    """Tell whether any object is a certificate."""
    require(tables, loader, name, method)
    if type(value) != tuple or not all([is_entry(entry) for entry in value]):
        return False
    facts = Facts(tables)
    first = first_entries(facts, loader, name, method)
    ahead = {}
    for entry in value:
        if key_of(entry) in ahead or not (entry in first or is_added(facts, ahead, entry)):
            return False
        ahead[key_of(entry)] = True
    search = Search(facts)
    wanted = list(first)
    for entry in value:
        wanted.extend(search.turn(entry))
    return all([key_of(entry) in ahead for entry in wanted])
