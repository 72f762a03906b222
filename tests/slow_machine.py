"""A slow machine, written apart from the program by the words of the document.

It keeps everything in plain lists and dicts, copies all of it before each change, and
looks through everything each time. Only the tables of sets are the program's own.
"""

from lateclasses.classes import ClassText
from lateclasses.formats import format_class
from lateclasses.sets import least_table, needs, wrong_reason

TOP = ("", "top")
PARTS = ("bound", "fixed", "loaded", "equations", "assumed", "decided", "uses", "checked", "eagerly")


class Fail(Exception):
    def __init__(self, kind, detail, trail):
        super().__init__(kind)
        self.failure = (kind, detail, tuple(trail))


class Ended(Exception):
    pass


class Thing:
    def __init__(self, chain, home, many=None):
        self.chain, self.home, self.many = chain, home, many
        self.slots = {}

    def __str__(self):
        return f"{self.home[1]}{'' if self.many is None else '[]'}@{self.home[0]}"


def text_of_value(value):
    return "null" if value is None else str(value)


def bare(types):
    return [kind.replace("[]", "") for kind in types if kind not in ("top", "top[]")]


def names_in_text(text):
    """The class names in a text, from left to right."""
    words = [text.above, *text.marks, *[kind for _, kind in text.fields]]
    for method in text.methods:
        words += [*method.params, method.result]
        for step in method.code:
            match step:
                case ("new", _, name) | ("array", _, name, _) | ("cast", _, _, name) | ("ifis", _, name, _):
                    words.append(name)
                case ("get", _, _, name, _, kind) | ("put", _, name, _, kind, _):
                    words += [name, kind]
                case ("call" | "ask", _, _, name, _, types, kind, _):
                    words += [name, *types, kind]
    return bare(words)


class SlowMachine:
    def __init__(self, eager=False):
        self.eager = eager
        self.loaders, self.rests, self.asks, self.texts = [], {}, {}, {}
        self.gone, self.down, self.released = [], set(), set()
        self.bound, self.fixed, self.decided = {}, set(), set()
        self.loaded, self.equations, self.assumed, self.uses, self.checked = [], [], [], [], []
        self.eagerly = []
        self.journal, self.change, self.trail = [], [], []
        self.kept = {}

    # Tables

    def add_loader(self, name, rest):
        self.loaders.append(name)
        self.rests[name], self.asks[name], self.texts[name] = rest, {}, {}
        self.journal.append((("loader", name, rest),))

    def add_class(self, loader, text):
        assert isinstance(text, ClassText) and (loader, text.name) not in self.fixed
        self.texts[loader][text.name] = text
        self.journal.append((("class", loader, format_class(text)),))

    def ask(self, loader, name, other):
        self.asks[loader][name] = other
        self.journal.append((("ask", loader, name, other),))

    # What is known

    def saved(self):
        kept = {part: getattr(self, part).copy() for part in PARTS}
        kept["assumed"] = [(key, list(places)) for key, places in self.assumed]
        return kept

    def change_by(self, act):
        """Do something that a failure undoes."""
        before = self.saved()
        self.change, self.trail = [], []
        try:
            result = act()
        except Fail:
            for part, held in before.items():
                setattr(self, part, held)
            raise
        if self.change:
            self.journal.append(tuple(self.change))
        return result

    def fail(self, kind, *detail):
        raise Fail(kind, detail, self.trail)

    def within(self, item, act):
        self.trail.append(item)
        result = act()
        self.trail.pop()
        return result

    def meaning(self, loader, name):
        return TOP if name == "top" else self.bound.get((loader, name))

    def is_loaded(self, identity):
        return identity == TOP or identity in [one for one, _ in self.loaded]

    def is_live(self, loader, name):
        return self.meaning(loader, name) is not None and self.is_loaded(self.meaning(loader, name))

    def text(self, identity):
        return self.texts[identity[0]][identity[1]]

    def chain(self, identity):
        if identity == TOP:
            return [TOP]
        return [identity] + self.chain(self.meaning(identity[0], self.text(identity).above))

    def follow(self, loader, name):
        """The loaders on the way, and what it gives, perhaps None."""
        passed = []
        while loader is not None:
            passed.append(loader)
            if (loader, name) in self.bound:
                return passed, self.bound[(loader, name)]
            if name in self.texts[loader]:
                return passed, (loader, name)
            loader = self.asks[loader].get(name, self.rests[loader])
        return passed, None

    def chains_from(self, name, loader):
        """All ways through the equations for a name: tuples (numbers of equations, last loader)."""
        found = []

        def go(at, seen, numbers):
            found.append((numbers, at))
            for number, (word, one, other, _) in enumerate(self.equations):
                if word == name and at in (one, other):
                    to = other if at == one else one
                    if to not in seen:
                        go(to, seen | {to}, numbers + (number,))

        go(loader, {loader}, ())
        return sorted(found, key=lambda pair: (len(pair[0]), pair[0]))

    def joined(self, name, loader):
        order = []
        for _, at in self.chains_from(name, loader):
            if at not in order:
                order.append(at)
        return order

    def shortest(self, name, loader, other):
        for numbers, at in self.chains_from(name, loader):
            if at == other:
                return tuple(self.equations[number] for number in numbers)
        return None

    def has_identity(self, loader, name):
        if self.meaning(loader, name) is not None:
            return True
        return any(self.follow(at, name)[1] is not None for at in self.joined(name, loader))

    # Points 11 to 15

    def bind_all(self, name, source, identity, loaders):
        for at in loaders:
            passed, found = self.follow(at, name)
            if found is not None and found != identity:
                self.fail("Equation", name, source, identity, at, found, self.shortest(name, source, at))
            self.fixed |= {(each, name) for each in passed}
            self.bound[(at, name)] = identity
            self.change.append(("bind", at, name, identity))

    def bind(self, loader, name):
        if self.meaning(loader, name) is None:
            self.within(("bind", loader, name), lambda: self.bind_new(loader, name))
        return self.meaning(loader, name)

    def bind_new(self, loader, name):
        for at in self.joined(name, loader):
            identity = self.follow(at, name)[1]
            if identity is not None:
                self.bind_all(name, at, identity, self.joined(name, loader))
                return
        self.fail("NoClass", loader, name)

    def equate(self, name, loader, other, place):
        if other in self.joined(name, loader):
            return False
        self.within(("equation", name, loader, other), lambda: self.equate_new(name, loader, other, place))
        return True

    def equate_new(self, name, loader, other, place):
        groups = {at: self.joined(name, at) for at in (loader, other)}
        equation = (name, loader, other, place)
        self.equations.append(equation)
        self.change.append(("equation", *equation))
        one, two = self.meaning(loader, name), self.meaning(other, name)
        if one is not None and two is not None and one != two:
            self.fail("Equation", name, loader, one, other, two, (equation,))
        if one is not None and two is None:
            self.bind_all(name, loader, one, groups[other])
        if one is None and two is not None:
            self.bind_all(name, other, two, groups[loader])

    def load(self, identity, reason):
        if not self.is_loaded(identity):
            self.within(("load", identity), lambda: self.load_new(identity, reason))

    def load_new(self, identity, reason):
        loader, name = identity
        if ("load", identity) in self.trail[:-1]:
            self.fail("Shape", identity, ("circle",))
        if loader in self.down:
            self.fail("Down", identity)
        text = self.text(identity)
        above = self.bind(loader, text.above)
        self.load(above, ("above", identity))
        higher = [self.text(one) for one in self.chain(above) if one != TOP]
        for word, _ in text.fields:
            if any(word in [field for field, _ in one.fields] for one in higher):
                self.fail("Shape", identity, ("field", word))
        for method in text.methods:
            for one in higher:
                other = one.method(method.name)
                if other is not None and (other.params, other.result) != (method.params, method.result):
                    self.fail("Shape", identity, ("method", method.name))
        for mark in text.marks:
            if not self.has_identity(loader, mark):
                self.fail("Shape", identity, ("mark", mark))
            self.bind(loader, mark)
        for method in text.methods:
            for one in self.chain(above):
                if one != TOP and self.text(one).method(method.name) is not None:
                    for word in bare([*method.params, method.result]):
                        self.equate(word, loader, one[0], (loader, name, method.name, None))
                    break
        self.bind(loader, name)
        self.loaded.append((identity, reason))
        self.change.append(("load", identity, reason))

    def check(self, identity, word):
        if (identity, word) not in [(one, other) for one, other, _ in self.checked]:
            self.within(("check", identity, word), lambda: self.check_new(identity, word))

    def check_new(self, identity, word):
        loader, name = identity
        method = self.text(identity).method(word)
        reason = wrong_reason(name, method)
        if reason is not None:
            self.fail("Method", identity, word, reason)
        table = least_table(name, method)
        for one, other, index in needs(name, method, table):
            key = (loader, one, other)
            if key not in [each for each, _ in self.assumed]:
                self.assumed.append((key, []))
            for each, places in self.assumed:
                if each == key:
                    places.append((loader, name, word, index))
        for index, step in enumerate(method.code):
            if table[index] is not None and step[0] in ("get", "put", "call", "ask"):
                self.uses.append(((loader, name, word, index), step))
        self.checked.append((identity, word, table))
        self.change.append(("check", identity, word, table))

    # Points 13 and 21

    def first_declaring(self, identity, kind, word):
        """The first class of a chain with a field or method of this name, and its types."""
        for one in self.chain(identity):
            if one != TOP:
                if kind == "field" and self.text(one).field(word) is not None:
                    return one, (self.text(one).field(word),)
                if kind == "method" and self.text(one).method(word) is not None:
                    method = self.text(one).method(word)
                    return one, (*method.params, method.result)
        return None, ()

    def mark_identities(self, identity):
        return [self.meaning(one[0], mark) for one in self.chain(identity) if one != TOP
                for mark in self.text(one).marks]

    def wants(self, place, step):
        """The equations (name, loader, other, place) that a use wants now."""
        loader = place[0]
        match step:
            case ("get", _, _, name, word, kind) | ("put", _, name, word, kind, _):
                about, objects, types = "field", [self.meaning(loader, name)] * self.is_live(loader, name), (kind,)
            case ("call", _, _, name, word, params, kind, _):
                about, types = "method", (*params, kind)
                objects = [self.meaning(loader, name)] * self.is_live(loader, name)
            case ("ask", _, _, mark, word, params, kind, _):
                about, types, found = "method", (*params, kind), self.meaning(loader, mark)
                objects = [one for one, _ in self.loaded if found is not None and found in self.mark_identities(one)]
        wanted = []
        for one in objects:
            holder, declared = self.first_declaring(one, about, word)
            if holder is not None and declared == types:
                wanted += [(name, loader, holder[0], place) for name in bare(types)]
        return wanted

    def close(self):
        while True:
            noted = True
            while noted:
                noted = False
                for place, step in self.uses:
                    for equation in self.wants(place, step):
                        noted = self.equate(*equation) or noted
            for key, places in self.assumed:
                if key not in self.decided and self.is_live(key[0], key[1]):
                    self.within(("decide", *key), lambda: self.decide(*key, places))
                    break
            else:
                return

    def decide(self, loader, one, other, places):
        chain = tuple(self.chain(self.meaning(loader, one)))
        if not self.has_identity(loader, other) or self.bind(loader, other) not in chain:
            self.fail("Refused", loader, one, other, tuple(places), chain)
        self.decided.add((loader, one, other))

    def end(self):
        """What belongs to the end of a call."""
        if self.eager:
            number = 0
            while number < len(self.loaded):
                identity = self.loaded[number][0]
                number += 1
                if identity not in self.eagerly:
                    for name in names_in_text(self.text(identity)):
                        self.load(self.bind(identity[0], name), ("eager", identity))
                    for method in self.text(identity).methods:
                        self.check(identity, method.name)
                    self.eagerly.append(identity)
        self.close()

    # Calls

    def do_bind(self, loader, name):
        def act():
            identity = self.bind(loader, name)
            self.end()
            return identity
        return self.change_by(act)

    def do_load(self, loader, name):
        def act():
            identity = self.bind(loader, name)
            self.load(identity, ("asked",))
            self.end()
            return identity
        return self.change_by(act)

    def do_check(self, identity, word):
        def act():
            self.check(identity, word)
            self.end()
            return self.table(identity, word)
        return self.change_by(act)

    def table(self, identity, word):
        for one, other, table in self.checked:
            if (one, other) == (identity, word):
                return table
        return None

    # Runs

    def run(self, loader, name, word, values=(), choices=(), limit=1000, keep=None):
        return Run(self, choices, limit).all(loader, name, word, values, keep)

    # Unloading

    def things(self):
        found, waiting = [], list(self.kept.values())
        while waiting:
            thing = waiting.pop()
            if thing is not None and not any(thing is one for one in found):
                found.append(thing)
                waiting += thing.slots.values()
        return found

    def needed_by(self, loader):
        """The loaders that a loader needs."""
        needed = set(self.asks[loader].values()) | {self.rests[loader]}
        needed |= {identity[0] for (one, _), identity in self.bound.items() if one == loader}
        for (one, low, high), _ in self.assumed:
            if (one, low, high) not in self.decided and loader in self.joined(low, one):
                needed.add(one)
        return needed - {loader, None, ""}

    def removable(self):
        free = set(self.released)
        kept = {thing.home[0] for thing in self.things()}
        while True:
            held = {name for name in free if name in kept
                    or any(name in self.needed_by(one) for one in self.loaders if one not in free)}
            if not held:
                return [name for name in self.loaders if name in free]
            free -= held

    def unload(self):
        names = self.removable()
        if not names:
            return []
        stays = [name for name in self.loaders if name not in names]
        words = sorted({equation[0] for equation in self.equations})
        groups = [(word, self.joined(word, one)) for word in words for one in stays]
        self.equations = [each for each in self.equations if each[1] in stays and each[2] in stays]
        added = []
        for word, group in groups:
            group = [one for one in stays if one in group]
            for other in group[1:]:
                if other not in self.joined(word, group[0]):
                    self.equations.append((word, group[0], other, ("gone",)))
                    added.append(self.equations[-1])
        self.loaders = stays
        self.bound = {key: held for key, held in self.bound.items() if key[0] in stays}
        self.fixed = {key for key in self.fixed if key[0] in stays}
        self.loaded = [pair for pair in self.loaded if pair[0][0] in stays]
        self.checked = [each for each in self.checked if each[0][0] in stays]
        self.assumed = [pair for pair in self.assumed if pair[0][0] in stays]
        self.uses = [pair for pair in self.uses if pair[0][0] in stays]
        self.released -= set(names)
        self.down -= set(names)
        self.gone += names
        self.journal.append((("unload", tuple(names), tuple(added)),))
        return names

    def release(self, loader):
        if loader not in self.released:
            self.released.add(loader)
            self.journal.append((("release", loader),))


class Run:
    """A run, with one call of Python for each call of the program."""

    def __init__(self, machine, choices, limit):
        self.machine, self.choices, self.limit = machine, list(choices), limit
        self.told, self.steps, self.depth = [], 0, 0
        self.ending = self.place = None
        self.loaded = len(machine.loaded)
        self.seen = []

    def all(self, loader, name, word, values, keep):
        machine = self.machine
        value = None
        try:
            holder, registers = machine.change_by(lambda: self.begin(loader, name, word, values))
            value = self.perform(holder, word, registers)
            self.ending = ("returned", text_of_value(value))
            if keep is not None:
                machine.kept.pop(keep, None)
                if value is not None:
                    machine.kept[keep] = value
        except Fail as error:
            self.ending = ("failed", error.failure, self.place)
        except Ended:
            pass
        return (tuple(self.told), self.ending, self.steps,
                tuple(identity for identity, _ in machine.loaded[self.loaded:]))

    def begin(self, loader, name, word, values):
        machine = self.machine
        identity = machine.bind(loader, name)
        machine.load(identity, ("run",))
        holder, _ = machine.first_declaring(identity, "method", word)
        if holder is None:
            raise Fail("NoEntry", (), ())
        method = machine.text(holder).method(word)
        if len(values) != len(method.params):
            raise Fail("Value", (), ())
        held = [None if value is None else machine.kept[value] for value in values]
        for value, kind in zip(held, method.params):
            if value is not None and (kind.endswith("[]") or not self.lies_below(value, holder[0], kind)):
                raise Fail("Value", (), ())
        machine.check(holder, word)
        machine.end()
        return holder, [Thing(machine.chain(identity), identity)] + held

    def lies_below(self, value, loader, name):
        if not self.machine.has_identity(loader, name):
            return False
        return self.machine.bind(loader, name) in value.chain

    def perform(self, holder, word, registers):
        machine = self.machine
        method = machine.text(holder).method(word)
        self.depth += 1
        registers += [None] * (method.size - len(registers))
        index = 0
        while True:
            step = method.code[index]
            place = (*holder, word, index)
            if self.steps == self.limit:
                self.ending = ("stopped",)
                raise Ended()
            if step[0] == "choose" and not self.choices:
                self.ending = ("starved",)
                raise Ended()
            self.seen.append((place, tuple(map(text_of_value, registers))))
            self.steps += 1
            self.place = place
            if step[0] == "return":
                self.depth -= 1
                return registers[step[1]]
            entered = machine.change_by(lambda: self.step(step, place, registers))
            index += 1
            if isinstance(entered, int):
                index = entered
            elif entered is not None:
                registers[step[1]] = self.perform(*entered)

    def step(self, step, place, registers):
        """Perform an instruction: None, the index to jump to, or what is to be called."""
        machine, loader = self.machine, place[0]

        def require(right, kind):
            if not right:
                raise Fail(kind, (), ())

        match step:
            case ("new", r, name):
                identity = machine.bind(loader, name)
                machine.load(identity, ("new", place))
                machine.end()
                registers[r] = Thing(machine.chain(identity), identity)
            case ("array", r, name, many):
                registers[r] = Thing([TOP], (loader, name), many)
            case ("null", r):
                registers[r] = None
            case ("move", r, s):
                registers[r] = registers[s]
            case ("get", r, s, name, field, kind):
                require(registers[s] is not None, "Null")
                require(self.fits(loader, name, "field", field, (kind,)), "NoField")
                registers[r] = registers[s].slots.get(field)
            case ("put", s, name, field, kind, v):
                require(registers[s] is not None, "Null")
                require(self.fits(loader, name, "field", field, (kind,)), "NoField")
                registers[s].slots[field] = registers[v]
            case ("call", _, s, name, word, types, kind, args):
                value = registers[s]
                require(value is not None, "Null")
                require(self.fits(loader, name, "method", word, (*types, kind)), "NoMethod")
                holder = self.declaring(value, word)[0]
                return self.enter(holder, word, [value] + [registers[each] for each in args])
            case ("ask", _, s, mark, word, types, kind, args):
                value = registers[s]
                require(value is not None, "Null")
                found = machine.bind(loader, mark)
                require(found in [each for one in value.chain if one != TOP
                                  for each in machine.mark_identities(one)], "NoMark")
                holder, declared = self.declaring(value, word)
                require(holder is not None and declared == (*types, kind), "NoMethod")
                return self.enter(holder, word, [value] + [registers[each] for each in args])
            case ("cast", r, s, name):
                if registers[s] is not None:
                    require(self.lies_below(registers[s], loader, name), "Cast")
                    machine.end()
                registers[r] = registers[s]
            case ("load", r, a, i):
                require(registers[a] is not None, "Null")
                require(i < registers[a].many, "Index")
                registers[r] = registers[a].slots.get(i)
            case ("store", a, i, v):
                require(registers[a] is not None, "Null")
                require(i < registers[a].many, "Index")
                if registers[v] is not None:
                    require(self.lies_below(registers[v], *registers[a].home), "Store")
                    machine.end()
                registers[a].slots[i] = registers[v]
            case ("jump", t):
                return t
            case ("ifnull", s, t):
                return t if registers[s] is None else None
            case ("ifis", s, name, t):
                below = registers[s] is not None and self.lies_below(registers[s], loader, name)
                machine.end()
                return t if below else None
            case ("choose", t):
                return t if self.choices.pop(0) else None
            case ("tell", s):
                self.told.append(text_of_value(registers[s]))
        return None

    def fits(self, loader, name, kind, word, types):
        identity = self.machine.meaning(loader, name)
        assert identity is not None and self.machine.is_loaded(identity)
        holder, declared = self.machine.first_declaring(identity, kind, word)
        return holder is not None and declared == types

    def declaring(self, value, word):
        for one in value.chain:
            if one != TOP and self.machine.text(one).method(word) is not None:
                return self.machine.first_declaring(one, "method", word)
        return None, ()

    def enter(self, holder, word, registers):
        if self.depth >= 30:
            raise Fail("Deep", (), ())
        self.machine.check(holder, word)
        self.machine.end()
        return holder, word, registers
