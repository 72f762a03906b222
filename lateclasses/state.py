"""What a machine knows, and how each change of it is made, noted in the journal and undone.

The state only does what it is told: when something is to be bound, loaded, joined or
checked is said in the files that use it. The judge uses the same state.
"""

from lateclasses.errors import Failing, NameFixed, NameTaken
from lateclasses.formats import format_class
from lateclasses.heap import Heap
from lateclasses.sets import needs_of
from lateclasses.tables import Tables
from lateclasses.words import TOP, is_name

USES = ("get", "put", "call", "ask")
FIELD = "field"
METHOD = "method"


def method_types(method):
    """Return the types of a method: those of its parameters, then that of its result."""
    return method.params + (method.result,)


def declared_types(text, kind, name):
    """Return the types of the field or method of this name that a text declares, or None."""
    if kind == FIELD:
        found = text.field(name)
        return None if found is None else (found,)
    method = text.method(name)
    return None if method is None else method_types(method)


class State:
    """All that a machine has. A failure is undone up to the last commit."""

    def __init__(self, is_eager):
        self.is_eager = is_eager
        self.tables = Tables()
        # By identity: the text.
        self.texts = {}
        # By (loader, name): identities, and whether the tables cannot change for the name.
        self.meanings = {}
        self.fixed = {}
        # The loaded identities, and by identity: its reason, its chain, the identities
        # of all marks in its chain.
        self.order = []
        self.reasons = {}
        self.chains = {TOP: (TOP,)}
        self.emblems = {TOP: ()}
        # By (identity, kind, name): what member found, as long as nothing is unloaded or undone.
        self.members = {}
        # All equations, and by (name, loader) those that join this loader.
        self.equations = []
        self.links = {}
        # By assumption (loader, A, B): its places, and whether it is decided.
        self.assumed = {}
        self.decided = {}
        # By place: the instruction, and how many loaded classes were looked at for it.
        self.uses = {}
        self.settled = {}
        # By (identity, method): the table.
        self.checked = {}
        # By identity: whether all that its text names is loaded, on an eager machine.
        self.thorough = {}
        self.given_up = {}
        self.off = {}
        self.gone = {}
        self.heap = Heap()
        self.history = []
        self.done = []
        self.change = []
        self.undoing = []
        self.trail = []

    def text_of(self, identity):
        """Return the class text of an identity."""
        return self.texts[identity]

    def member(self, identity, kind, name):
        """Return (holder, types): the first class of a chain that declares a field or method of this name, or None."""
        if identity not in self.chains:
            return None
        key = (identity, kind, name)
        if key not in self.members:
            self.members[key] = self._find_member(identity, kind, name)
        return self.members[key]

    def _find_member(self, identity, kind, name):
        """Return what member does, by going up the chain."""
        for holder in self.chains[identity]:
            types = declared_types(self.texts[holder], kind, name) if holder != TOP else None
            if types is not None:
                return (holder, types)
        return None

    def meaning(self, loader, name):
        """Return the identity to which a name of a loader is bound, or None."""
        if name == "top":
            return TOP
        return self.meanings.get((loader, name))

    def is_live(self, loader, name):
        """Tell whether a name of a loader is bound to a loaded identity."""
        return self.meaning(loader, name) in self.chains

    def walk(self, loader, name):
        """Return (path, identity): the way is followed up to the first loader that knows the name, or to its end."""
        path = []
        at = loader
        while at is not None:
            path.append(at)
            if (at, name) in self.meanings:
                return (path, self.meanings[(at, name)])
            if (at, name) in self.texts:
                return (path, (at, name))
            at = self.tables[at].asked_for(name)
        return (path, None)

    def group(self, name, loader):
        """Return a dict from the loaders joined with a loader to the shortest chains that lead to them, in order."""
        found = {loader: ()}
        waiting = [loader]
        index = 0
        # Equations never join loaders that are joined already, so there is one chain
        # to each loader, and going through the equations as they were noted gives the order.
        while index < len(waiting):
            at = waiting[index]
            index += 1
            for equation in self.links.get((name, at), []):
                other = equation[2] if equation[1] == at else equation[1]
                if other not in found:
                    found[other] = found[at] + (equation,)
                    waiting.append(other)
        return found

    def is_joined(self, name, loader, other):
        """Tell whether two loaders are joined for a name."""
        return loader == other or other in self.group(name, loader)

    def source(self, loader, name):
        """Return (loader, identity): the first joined loader whose way gives an identity, or None."""
        if self.meaning(loader, name) is not None:
            return (loader, self.meaning(loader, name))
        for member in self.group(name, loader):
            identity = self.walk(member, name)[1]
            if identity is not None:
                return (member, identity)
        return None

    def fail(self, kind, detail):
        """Raise a failure that has what is being done as its trail."""
        raise Failing((kind, detail, tuple(self.trail)))

    def _put(self, table, key, held):
        """Give a dict an item so that it can be undone. None is never an item."""
        self.undoing.append((table, key, table.get(key)))
        table[key] = held

    def _push(self, rows, item):
        """Append to a list so that it can be undone."""
        self.undoing.append((rows, None, None))
        rows.append(item)

    def undo(self):
        """Undo all since the last commit."""
        for held, key, old in reversed(list(self.undoing)):
            if isinstance(held, list):
                held.pop()
            elif old is None:
                del held[key]
            else:
                held[key] = old
        self.members = {}
        self._begin()

    def commit(self):
        """Note the change that was made, if one was."""
        if len(self.change) > 0:
            self.history.append(tuple(self.change))
        self._begin()

    def _begin(self):
        """Begin another change."""
        self.change = []
        self.undoing = []
        self.trail = []

    def add_loader(self, name, rest):
        """Add a loader, or raise as the machine does."""
        if is_name(name) and name in self.gone:
            raise NameTaken(name)
        self.tables.add_loader(name, rest=rest)
        self.change.append(("loader", name, rest))

    def add_class(self, loader, text):
        """Add a class text, or raise as the machine does."""
        self.tables.require_class(loader, text)
        self._require_loose(loader, text.name)
        self.tables.add_class(loader, text)
        self.texts[(loader, text.name)] = text
        self.change.append(("class", loader, format_class(text)))

    def add_ask(self, loader, name, other):
        """Let a loader ask another one for a name, or raise as the machine does."""
        self.tables.require_ask(loader, name, other)
        self._require_loose(loader, name)
        self.tables.ask(loader, name, other)
        self.change.append(("ask", loader, name, other))

    def _require_loose(self, loader, name):
        """Raise NameFixed if the tables of a loader cannot change for a name any more."""
        if (loader, name) in self.fixed:
            raise NameFixed(loader, name)

    def set_meaning(self, loader, name, identity):
        """Bind a name of a loader; all loaders on its way are fixed for it."""
        for at in self.walk(loader, name)[0]:
            if (at, name) not in self.fixed:
                self._put(self.fixed, (at, name), True)
        self._put(self.meanings, (loader, name), identity)
        self.change.append(("bind", loader, name, identity))

    def add_equation(self, equation):
        """Note an equation of two loaders that are not joined."""
        self._push(self.equations, equation)
        self._link(equation)
        self.change.append(("equation",) + equation)

    def _link(self, equation):
        """Let both loaders of an equation lead to it."""
        for loader in (equation[1], equation[2]):
            key = (equation[0], loader)
            if key not in self.links:
                self._put(self.links, key, [])
            self._push(self.links[key], equation)

    def add_load(self, identity, reason):
        """Note that an identity is loaded; the class above it is."""
        loader, name = identity
        text = self.text_of(identity)
        above = self.meaning(loader, text.above)
        found = {mark: True for mark in self.emblems[above]}
        for mark in text.marks:
            found[self.meaning(loader, mark)] = True
        self._put(self.chains, identity, (identity,) + self.chains[above])
        self._put(self.emblems, identity, tuple(found))
        self._put(self.reasons, identity, reason)
        self._push(self.order, identity)
        self.change.append(("load", identity, reason))

    def add_check(self, identity, word, table):
        """Note that a method is checked with a right table, with its assumptions and uses."""
        loader, name = identity
        method = self.text_of(identity).method(word)
        for one, other, index in needs_of(method, table):
            key = (loader, one, other)
            if key not in self.assumed:
                self._put(self.assumed, key, [])
            self._push(self.assumed[key], (loader, name, word, index))
        for index, row in enumerate(table):
            if row is not None and method.code[index][0] in USES:
                self._put(self.uses, (loader, name, word, index), method.code[index])
        self._put(self.checked, (identity, word), table)
        self.change.append(("check", identity, word, table))

    def decide(self, key):
        """Note that an assumption holds."""
        self._put(self.decided, key, True)

    def mark_thorough(self, identity):
        """Note that all that the text of an identity names is loaded and its methods are checked."""
        self._put(self.thorough, identity, True)

    def settle(self, place):
        """Note that all classes that are loaded now were looked at for a use."""
        if self.settled.get(place) != 1 + len(self.order):
            self._put(self.settled, place, 1 + len(self.order))

    def give_up(self, loader):
        """Note that a loader is released."""
        self.given_up[loader] = True
        self.change.append(("release", loader))

    def open_assumptions(self):
        """Return the assumptions that are not decided, in the order in which they were noted."""
        return [key for key in self.assumed if key not in self.decided]

    def remove(self, names, equations):
        """Remove loaders with all that goes with them, and note the equations that keep the others joined."""
        self.tables.drop(names)
        stays = {name: True for name in self.tables.names}
        self.texts = {identity: self.texts[identity] for identity in self.texts if identity[0] in stays}
        self.members = {}
        self.meanings = {key: self.meanings[key] for key in self.meanings if key[0] in stays}
        self.fixed = {key: self.fixed[key] for key in self.fixed if key[0] in stays}
        self.order = [identity for identity in self.order if identity[0] in stays]
        self.reasons = {identity: self.reasons[identity] for identity in self.order}
        self.chains = {identity: self.chains[identity] for identity in [TOP] + self.order}
        self.emblems = {identity: self.emblems[identity] for identity in [TOP] + self.order}
        self.thorough = {identity: True for identity in self.order if identity in self.thorough}
        self.checked = {key: self.checked[key] for key in self.checked if key[0][0] in stays}
        self.assumed = {key: self.assumed[key] for key in self.assumed if key[0] in stays}
        self.decided = {key: True for key in self.decided if key[0] in stays}
        self.uses = {place: self.uses[place] for place in self.uses if place[0] in stays}
        self.settled = {}
        self.given_up = {loader: True for loader in self.given_up if loader in stays}
        self.off = {loader: True for loader in self.off if loader in stays}
        staying = [equation for equation in self.equations if equation[1] in stays and equation[2] in stays]
        self.equations = staying + list(equations)
        self.links = {}
        for equation in list(self.equations):
            self._link(equation)
        for name in names:
            self.gone[name] = True
        self.change.append(("unload", tuple(names), tuple(equations)))

    def copy(self):
        """Return an independent state with all that this one has."""
        twin = State(self.is_eager)
        twin.tables = self.tables.copy()
        twin.texts = {identity: self.texts[identity] for identity in self.texts}
        twin.meanings = {key: self.meanings[key] for key in self.meanings}
        twin.fixed = {key: True for key in self.fixed}
        twin.order = list(self.order)
        twin.reasons = {identity: self.reasons[identity] for identity in self.reasons}
        twin.chains = {identity: self.chains[identity] for identity in self.chains}
        twin.emblems = {identity: self.emblems[identity] for identity in self.emblems}
        twin.equations = list(self.equations)
        twin.links = {key: list(self.links[key]) for key in self.links}
        twin.assumed = {key: list(self.assumed[key]) for key in self.assumed}
        twin.decided = {key: True for key in self.decided}
        twin.uses = {place: self.uses[place] for place in self.uses}
        twin.settled = {place: self.settled[place] for place in self.settled}
        twin.checked = {key: self.checked[key] for key in self.checked}
        twin.thorough = {identity: True for identity in self.thorough}
        twin.given_up = dict(self.given_up)
        twin.off = dict(self.off)
        twin.gone = dict(self.gone)
        twin.heap = self.heap.copy()
        twin.history = list(self.history)
        twin.done = list(self.done)
        return twin
