"""Random texts, tables and calls, most of them of a kind that can work."""

from lateclasses.classes import ClassText
from lateclasses.codes import Method
from lateclasses.sets import wrong_reason

NAMES = ("ant", "bee", "cat", "dog")
LOADERS = ("base", "lib", "shop", "desk")
FIELDS = ("f", "g")
METHODS = ("m", "n", "o")
KEEPS = ("one", "two")


def some_type(rng):
    if rng.random() < 0.12:
        return rng.choice(NAMES) + "[]"
    return "top" if rng.random() < 0.15 else rng.choice(NAMES)


class Plan:
    """What the texts of a program agree on: who declares which field and method with which types."""

    def __init__(self, rng, names=NAMES, weave=None):
        self.rng = rng
        self.names = names
        # Many uses of null that are checked and seldom run: they join many loaders.
        self.weave = rng.random() < 0.4 if weave is None else weave
        dense = 0.3 if self.weave else 0
        # How often something is other than agreed on.
        self.wild = rng.choice((0, 0, 0.02, 0.1))
        # How often a register is used as what it may not be.
        self.odd = rng.choice((0, 0.05, 0.2))
        self.above = {}
        order = list(names)
        rng.shuffle(order)
        for index, name in enumerate(order):
            self.above[name] = rng.choice(order[:index]) if index and rng.random() < 0.65 else "top"
        self.fields = {name: [(word, some_type(rng)) for word in FIELDS if rng.random() < 0.4 + dense] for name in names}
        types = {word: (tuple(some_type(rng) for _ in range(rng.choice((0, 0, 1, 1, 2)))), some_type(rng))
                 for word in METHODS}
        self.methods = {name: [(word, *types[word]) for word in METHODS if rng.random() < 0.5 + dense] for name in names}
        self.marks = {name: [mark for mark in names if rng.random() < 0.2 + dense / 2] for name in names}

    def chain(self, name):
        found = []
        while name in self.above and name not in found:
            found.append(name)
            name = self.above[name]
        return found

    def text(self, name):
        """A text of this name, now and then other than agreed on."""
        rng = self.rng
        above = self.above[name] if rng.random() >= self.wild else rng.choice(self.names + ("top",))
        higher = [word for one in self.chain(name)[1:] for word, _ in self.fields[one]]
        fields = [pair for pair in self.fields[name] if pair[0] not in higher or rng.random() < self.wild / 2]
        if rng.random() < self.wild:
            fields = [(word, some_type(rng)) for word, _ in fields]
        methods = []
        for word, params, result in self.methods[name]:
            if rng.random() < self.wild / 2:
                params, result = (), some_type(rng)
            methods.append(self.method(name, word, params, result))
        marks = self.marks[name] if rng.random() >= self.wild else [rng.choice(self.names)]
        return ClassText(name, above=above, marks=marks, fields=fields, methods=methods)

    def method(self, owner, word, params, result):
        for _ in range(12):
            method = Method(word, params, result, 1 + len(params) + 4, self.code(owner, params, result))
            if wrong_reason(owner, method) is None or self.rng.random() < self.wild / 4:
                break
        return method

    def code(self, owner, params, result):
        rng = self.rng
        size = 1 + len(params) + 4
        known = {0: owner}
        for index, kind in enumerate(params):
            known[1 + index] = kind
        length = rng.randint(3, 10)
        # One register is null, so that there is always something that fits.
        code = [("null", size - 1)]
        known[size - 1] = None
        code += [self.step(known, size - 1, length) for _ in range(length - 2)]
        fitting = [spot for spot, kind in known.items() if result in ("top", kind) or kind is None
                   or result in self.chain(kind)]
        if not fitting or rng.random() < self.odd:
            fitting = [spot for spot, kind in known.items() if kind is not None and "[]" not in kind + result] or [0]
        return code + [("return", rng.choice(fitting))]

    def target(self, known, size, kind):
        spot = self.rng.randrange(1, size)
        known[spot] = kind
        return spot

    def source(self, known, want=None):
        """A register that is known, best one of this kind."""
        fitting = [spot for spot, kind in known.items() if want in (None, "top", kind) or kind is None
                   or want in self.chain(kind)]
        if want is not None and self.rng.random() < self.odd:
            fitting = [spot for spot, kind in known.items() if kind not in (None, "top") and "[]" not in kind + want]
        return self.rng.choice(fitting or list(known))

    def objects(self, known):
        if self.weave:
            return [spot for spot, kind in known.items() if kind is None]
        return [spot for spot, kind in known.items() if kind in self.names] or [0]

    def step(self, known, size, length):
        rng = self.rng
        word = rng.choice(("new", "new", "new", "call", "call", "ask", "get", "put", "cast", "ifis", "choose", "choose",
                           "null", "move", "array", "load", "store", "tell", "ifnull", "jump"))
        if self.weave and rng.random() < 0.8:
            word = rng.choice(("call", "ask", "get", "put"))
        name = rng.choice(self.names + self.names + ("top",))
        later = rng.randint(1, length - 1) if rng.random() < 0.8 else rng.randrange(length)
        if word == "new":
            return ("new", self.target(known, size, name), name)
        if word == "array":
            return ("array", self.target(known, size, name + "[]"), name, rng.randint(0, 3))
        if word == "null" and rng.random() < 0.5:
            return ("null", self.target(known, size, None))
        if word == "move":
            spot = self.source(known)
            return ("move", self.target(known, size, known[spot]), spot)
        if word in ("get", "put"):
            return self.field_step(word, known, size)
        if word in ("call", "ask"):
            return self.call_step(word, known, size)
        if word == "cast":
            spot = self.source(known)
            return ("cast", self.target(known, size, name), spot, name)
        if word == "ifis":
            return ("ifis", self.source(known), name, later)
        if word in ("load", "store"):
            return self.array_step(word, known, size)
        if word == "choose":
            return ("choose", later)
        if word == "ifnull":
            return ("ifnull", self.source(known), later)
        if word == "jump" and rng.random() < 0.3:
            return ("jump", later)
        return ("tell", self.source(known))

    def field_step(self, word, known, size):
        rng = self.rng
        spot = rng.choice(self.objects(known))
        owner = rng.choice(self.chain(known[spot]) if known[spot] and rng.random() >= self.odd else self.names)
        known_fields = [pair for one in self.chain(owner) for pair in self.fields[one]]
        field, kind = rng.choice(known_fields) if known_fields and rng.random() < 0.95 else ("f", some_type(rng))
        if word == "get":
            return ("get", self.target(known, size, kind), spot, owner, field, kind)
        return ("put", spot, owner, field, kind, self.source(known, kind))

    def call_step(self, word, known, size):
        rng = self.rng
        spot = rng.choice(self.objects(known))
        owner = rng.choice(self.chain(known[spot]) if known[spot] and rng.random() >= self.odd else self.names)
        methods = [each for one in self.chain(owner) for each in self.methods[one]]
        called, params, result = (rng.choice(methods) if methods and rng.random() < 0.95
                                  else ("m", (), some_type(rng)))
        args = tuple(self.source(known, kind) for kind in params)
        marks = [mark for one in self.chain(owner) for mark in self.marks[one]]
        if word == "ask":
            owner = rng.choice(marks) if marks and rng.random() < 0.9 else rng.choice(self.names)
        return (word, self.target(known, size, result), spot, owner, called, params, result, args)

    def array_step(self, word, known, size):
        rng = self.rng
        arrays = [spot for spot, kind in known.items() if kind and kind.endswith("[]")]
        if not arrays:
            name = rng.choice(self.names)
            return ("array", self.target(known, size, name + "[]"), name, rng.randint(1, 3))
        spot = rng.choice(arrays)
        inner = known[spot].replace("[]", "")
        if word == "load":
            return ("load", self.target(known, size, inner), spot, rng.randint(0, 2))
        return ("store", spot, rng.randint(0, 2), self.source(known, inner))


def table_calls(rng, plan, many=None):
    """The calls that make tables of one to four loaders: tuples (method, arguments)."""
    many = many or rng.choice((2, 3, 4) if plan.weave else (1, 2, 3, 3, 4, 4))
    own, asked = rng.choice((0.2, 0.35, 0.5)), rng.choice((0.1, 0.3, 0.7))
    careful = rng.random() < (0.2 if plan.weave else 0.7)
    # Now and then each class is in one loader only, so that those ahead of it have no way to it.
    homes = {name: rng.randrange(many) for name in plan.names} if rng.random() < (0.1 if plan.weave else 0.3) else {}
    calls, texts = [], []
    for index, loader in enumerate(LOADERS[:many]):
        rest = rng.choice(LOADERS[:index]) if index and rng.random() < 0.98 else None
        calls.append(("add_loader", (loader, rest)))
        if plan.weave and index == 1:
            # Two loaders that do not know of each other, for those behind them.
            rest = rng.choice((None, rest))
        calls[-1] = ("add_loader", (loader, rest))
        held = [name for name in plan.names if rng.random() < (0.99 if index == 0 or rest is None else own)]
        if homes:
            held = [name for name in plan.names if homes[name] == index]
        elif careful:
            # Who has a class has those below it, too.
            held = [name for name in plan.names if any(one in held for one in plan.chain(name))]
        for name in plan.names:
            if name in held:
                texts.append(("add_class", (loader, plan.text(name))))
            elif index and rng.random() < asked:
                texts.append(("ask", (loader, name, rng.choice(LOADERS[:index]))))
    rng.shuffle(texts)
    # Some are added when the machine has been used already.
    late = rng.choice((0, 0, 0, 1, 2))
    return calls + texts[late:], texts[:late]


class Linked(Plan):
    """Loaders that do not know of each other, and others whose code joins them for the name ant."""

    def __init__(self, rng):
        Plan.__init__(self, rng, weave=True)
        self.above = dict.fromkeys(self.names, "top")
        self.marks = {name: ["ant"] if name != "ant" and rng.random() < 0.2 else [] for name in self.names}
        self.fields = {"ant": [], "bee": [("f", "ant")], "cat": [("g", "ant[]"), ("h", "dog")], "dog": []}
        shared = ("m", ("ant",), "cat") if rng.random() < 0.5 else ("m", (), "ant")
        self.methods = {"ant": [shared], "bee": [shared], "cat": [shared], "dog": [("o", (), "top")]}

    def code(self, owner, params, result):
        rng = self.rng
        code = [("null", len(params) + 1)]
        for _ in range(rng.randint(1, 4) if owner == "dog" else rng.randint(0, 1)):
            other = rng.choice(("bee", "cat"))
            word, types, kind = self.methods[other][0]
            field, held = rng.choice(self.fields[other])
            one = len(params) + 1
            code.append(("null", one))
            code.append(rng.choice((
                ("get", one, one, other, field, held), ("put", one, other, field, held, one),
                ("call", one, one, other, word, types, kind, (one,) * len(types)),
                ("ask", one, one, "ant", word, types, kind, (one,) * len(types)), ("new", one + 1, other),
                ("cast", one, one, "ant"))))
        return code + [("return", len(params) + 1)]

    def calls(self):
        rng = self.rng
        made, texts, held = [], [], []
        for index, loader in enumerate(LOADERS):
            rest = rng.choice((None, None, rng.choice(LOADERS[:index]))) if index else None
            made.append(("add_loader", (loader, rest)))
            own = [name for name in self.names if rng.random() < 0.35]
            own += [("bee", "cat", "dog", "dog")[index]]
            for name in sorted(set(own)):
                texts.append(("add_class", (loader, self.text(name))))
                held.append(("add_class", loader, name))
            for name in sorted(set(self.names) - set(own)):
                if index and rng.random() < 0.8:
                    # Most often somebody who has it.
                    having = [one for one in LOADERS[:index] if ("add_class", one, name) in held]
                    texts.append(("ask", (loader, name, rng.choice(having or LOADERS[:index]))))
        rng.shuffle(texts)
        return made + texts, []


def some_program(rng):
    """A plan, the calls that make its tables, and more such calls for later."""
    if rng.random() < 0.3:
        plan = Linked(rng)
        return (plan, *plan.calls())
    plan = Plan(rng)
    return (plan, *table_calls(rng, plan))


def choices(rng):
    return [rng.random() < 0.5 for _ in range(rng.randint(0, 8))]


WEAVE_WORDS = ("check",) * 12 + ("load",) * 12 + ("bind",) * 3 + ("run",) * 4 + ("release", "release", "unload", "more")
WORDS = ("run",) * 20 + ("bind", "load", "load", "check", "check", "release", "unload", "down", "more", "forget")


def random_call(rng, plan, loaders, loaded, kept, more):
    """A call as a tuple (method, arguments); loaded has the identities with their texts."""
    word = rng.choice(WEAVE_WORDS if plan.weave else WORDS)
    if isinstance(plan, Linked) and rng.random() < 0.8:
        dogs = [identity for identity, _ in loaded if identity[1] == "dog"]
        if dogs and rng.random() < 0.4:
            return ("check", (rng.choice(dogs), "o"))
        name = rng.choice(("dog", "dog", "bee", "cat", "ant"))
        return (rng.choice(("load", "load", "bind")), (rng.choice(loaders), name))
    if word == "more" and more:
        return more.pop()
    if word == "down":
        return (rng.choice(("take_down", "bring_up", "bring_up", "bring_up")), (rng.choice(loaders),))
    if word == "release" and rng.random() < 0.8:
        return ("release", (rng.choice(loaders),))
    if word == "unload":
        return ("unload", ())
    if word == "forget" and kept:
        return ("forget", (rng.choice(sorted(kept)),))
    if word == "check" and loaded:
        identity, text = rng.choice(loaded)
        if text.methods:
            return ("check", (identity, rng.choice(text.methods).name))
    if word in ("bind", "load"):
        return (word, (rng.choice(loaders), rng.choice(plan.names + ("top",))))
    return random_run(rng, plan, loaders, kept)


def random_run(rng, plan, loaders, kept):
    """A run, most often of a method that should be there."""
    entries = [(name, word, len(params)) for name in plan.names for one in plan.chain(name)
               for word, params, _ in plan.methods[one]]
    name, word, many = rng.choice(entries) if entries and rng.random() < 0.95 else (rng.choice(plan.names), "m", 1)
    values = [rng.choice(sorted(kept) + [None]) for _ in range(many if rng.random() < 0.97 else 2)]
    keep = rng.choice(KEEPS + (None,))
    return ("run", (rng.choice(loaders), name, word, tuple(values), tuple(choices(rng)),
                    rng.choice((1000, 100, 100, 100, 5, 0)), keep))
