"""The machine: loaders, loaded classes and runs, and what it shows of them."""

from lateclasses.closing import complete
from lateclasses.errors import (Failing, InvalidChoices, InvalidLimit, InvalidOperand, InvalidValues, NotLoaded,
                                UnknownName)
from lateclasses.loading import bind, check, load
from lateclasses.playing import Play
from lateclasses.state import State
from lateclasses.tables import require_loader, require_name
from lateclasses.unloading import unload_from
from lateclasses.words import are_texts, is_name, is_number

MOST_LIMIT = 2000


def require_loaded(state, value):
    """Raise NotLoaded unless the object is a loaded identity other than that of top."""
    if not are_texts(value, 2) or value not in state.reasons:
        raise NotLoaded(value)


def are_values(kept, value):
    """Tell whether any object is a list or tuple of None and names of kept objects."""
    if type(value) not in (list, tuple):
        return False
    return all([item is None or (is_name(item) and item in kept) for item in value])


def are_choices(value):
    """Tell whether any object is a list or tuple of bools."""
    return type(value) in (list, tuple) and all([type(item) == bool for item in value])


def require_run(state, loader, name, method, values, choices, limit):
    """Raise the error of a run, if there is one."""
    require_loader(state.tables, loader)
    require_name(name)
    require_name(method)
    if not are_values(state.heap.kept, values):
        raise InvalidValues(values)
    if not are_choices(choices):
        raise InvalidChoices(choices)
    if not is_number(limit, 0, MOST_LIMIT):
        raise InvalidLimit(limit)


class Seen:
    """What a machine shows of a loaded class. It never changes."""

    def __init__(self, chain, marks):
        self._chain = tuple(chain)
        self._marks = tuple(marks)

    @property
    def chain(self):
        """Its identity and those of the classes above it, up to that of top."""
        return self._chain

    @property
    def marks(self):
        """The identities of its own marks."""
        return self._marks

    def __contains__(self, x):
        return are_texts(x, 2) and x in self._chain

    def __and__(self, other):
        if not isinstance(other, Seen):
            raise InvalidOperand(other)
        return [identity for identity in self._chain if identity in other._chain][0]

    def __len__(self):
        return len(self._chain)

    def __eq__(self, other):
        return isinstance(other, Seen) and self._chain == other._chain and self._marks == other._marks


class Trial:
    """A copy of a machine, and what becomes of it at the end of the block."""

    def __init__(self, owner):
        self._owner = owner
        self._twin = owner.copy()
        # None or True: a test for None is all that the end of a block needs.
        self._accepted = None
        self._held = None

    @property
    def machine(self):
        """The copy."""
        return self._twin

    def accept(self):
        """Let the machine and the copy exchange what they have at the end of the block."""
        self._accepted = True

    def __enter__(self):
        return self

    def __exit__(self, kind, value, trace):
        if kind is None and self._accepted is not None:
            self._held = self._owner._state
            self._owner._state = self._twin._state
            self._twin._state = self._held
            self._held = None
        self._accepted = None


class Machine:
    """A machine that loads classes as late as possible."""

    MOST_CALLS = 30

    def __init__(self):
        self._state = State(False)

    @property
    def loaders(self):
        """The names of the loaders, as a tuple."""
        return self._state.tables.names

    @property
    def released(self):
        """The names of the loaders that were given up, as a tuple."""
        return tuple([name for name in self._state.tables.names if name in self._state.given_up])

    @property
    def down(self):
        """The names of the loaders that are down, as a tuple."""
        return tuple([name for name in self._state.tables.names if name in self._state.off])

    def state_now(self):
        """Return what the machine has, for the other files of the package."""
        return self._state

    def take_state(self, state):
        """Let the machine have another state from now on, for the other files of the package."""
        self._state = state

    def add_loader(self, name, *, rest=None):
        """Add a loader that asks its rest for all names that nothing else is said of."""
        self._state.add_loader(name, rest)
        self._note("add_loader", (name, rest), None)

    def add_class(self, loader, text):
        """Give a loader a class text of its own."""
        self._state.add_class(loader, text)
        self._note("add_class", (loader, text), None)

    def ask(self, loader, name, other):
        """Let a loader ask another one, added before it, for a name."""
        self._state.add_ask(loader, name, other)
        self._note("ask", (loader, name, other), None)

    def bind(self, loader, name):
        """Bind a name of a loader and return its identity."""
        state = self._state
        require_loader(state.tables, loader)
        require_name(name)
        try:
            identity = bind(state, loader, name)
            complete(state)
        except Failing:
            state.undo()
            raise
        self._note("bind", (loader, name), identity)
        return identity

    def load(self, loader, name):
        """Bind a name of a loader, load its identity and return it."""
        state = self._state
        require_loader(state.tables, loader)
        require_name(name)
        try:
            identity = bind(state, loader, name)
            load(state, identity, ("asked",))
            complete(state)
        except Failing:
            state.undo()
            raise
        self._note("load", (loader, name), identity)
        return identity

    def check(self, identity, method):
        """Check a method that a loaded identity declares, and return its table."""
        state = self._state
        require_loaded(state, identity)
        if state.text_of(identity).method(method) is None:
            raise UnknownName(method)
        try:
            table = check(state, identity, method)
            complete(state)
        except Failing:
            state.undo()
            raise
        self._note("check", (identity, method), table)
        return table

    def run(self, loader, name, method, values=(), choices=(), *, limit=1000, keep=None):
        """Call a method of a new object and return the report."""
        state = self._state
        require_run(state, loader, name, method, values, choices, limit)
        if keep is not None:
            require_name(keep)
        play = Play(state, choices, limit, Machine.MOST_CALLS)
        play.begin(loader, name, method, values)
        play.play()
        if keep is not None and play.outcome[0] == "returned":
            state.heap.keep(keep, play.answer)
        state.heap.clean()
        report = play.report()
        self._note("run", (loader, name, method, tuple(values), tuple(choices), limit, keep), report.parts())
        return report

    def watch(self, loader, name, method, values=(), choices=(), *, limit=1000):
        """Perform a run on a copy; ahead of each instruction give its place and what the registers hold."""
        require_run(self._state, loader, name, method, values, choices, limit)
        play = Play(self._state.copy(), choices, limit, Machine.MOST_CALLS)
        play.begin(loader, name, method, values)
        while play.goes_on():
            yield play.shown()
            play.perform()

    def keeps(self):
        """Return a dict from the names of kept objects to what is told of them."""
        return self._state.heap.kept_texts()

    def forget(self, name):
        """Keep nothing under a name any more."""
        if not is_name(name) or name not in self._state.heap.kept:
            raise UnknownName(name)
        self._state.heap.forget(name)
        self._state.heap.clean()
        self._note("forget", (name,), None)

    def release(self, loader):
        """Give a loader up."""
        require_loader(self._state.tables, loader)
        if loader not in self._state.given_up:
            self._state.give_up(loader)
        self._note("release", (loader,), None)

    def unload(self):
        """Remove all loaders that are given up and that nothing needs, and return their names."""
        names = unload_from(self._state)
        self._note("unload", (), tuple(names))
        return names

    def take_down(self, loader):
        """Let nothing of a loader be loaded from now on."""
        require_loader(self._state.tables, loader)
        self._state.off[loader] = True
        self._note("take_down", (loader,), None)

    def bring_up(self, loader):
        """Let classes of a loader be loaded again."""
        require_loader(self._state.tables, loader)
        if loader in self._state.off:
            del self._state.off[loader]
        self._note("bring_up", (loader,), None)

    def tables_now(self):
        """Return a copy of the tables."""
        return self._state.tables.copy()

    def list_loaded(self):
        """Return the loaded identities but that of top, in the order in which they were loaded."""
        return list(self._state.order)

    def reason(self, identity):
        """Return the reason for which an identity was loaded."""
        require_loaded(self._state, identity)
        return self._state.reasons[identity]

    def meaning(self, loader, name):
        """Return the identity to which a name of a loader is bound, or None."""
        require_loader(self._state.tables, loader)
        require_name(name)
        return self._state.meaning(loader, name)

    def list_equations(self):
        """Return the equations, in the order in which they were noted."""
        return list(self._state.equations)

    def list_assumptions(self):
        """Return the assumptions with their places, in the order in which they were noted."""
        assumed = self._state.assumed
        return [key + (tuple(assumed[key]),) for key in assumed]

    def table(self, identity, method):
        """Return the table of a checked method, None for any other objects."""
        if not are_texts(identity, 2) or not is_name(method):
            return None
        return self._state.checked.get((identity, method))

    def journal(self):
        """Return the changes, as a list."""
        return list(self._state.history)

    def calls(self):
        """Return the calls that changed or answered something, as a list."""
        return list(self._state.done)

    def copy(self):
        """Return an independent machine of the same kind with all that this one has."""
        twin = self.fresh()
        twin._state = self._state.copy()
        return twin

    def fresh(self):
        """Return a new machine of the same kind."""
        return Machine()

    def trial(self):
        """Return a trial, which works on a copy."""
        return Trial(self)

    def attempt(self, visit):
        """Call a function with a copy and return its result; a true one lets both exchange what they have."""
        twin = self.copy()
        result = visit(twin)
        if result:
            self._state, twin._state = twin._state, self._state
        return result

    def _note(self, name, given, result):
        """Note a call that did not raise, and its change."""
        self._state.commit()
        self._state.done.append((name, given, result))

    def __contains__(self, x):
        return are_texts(x, 2) and x in self._state.reasons

    def __getitem__(self, at):
        state = self._state
        require_loaded(state, at)
        return Seen(state.chains[at], [state.meaning(at[0], mark) for mark in state.text_of(at).marks])

    def __iter__(self):
        raise TypeError("a machine is not iterated over")

    def __len__(self):
        return len(self._state.order)

    def __eq__(self, other):
        return (isinstance(other, Machine) and self._state.history == other._state.history
                and self.keeps() == other.keeps())
