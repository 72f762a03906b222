"""Tables: the loaders with their class texts, asks and rests, and the ways of names through them."""

from lateclasses.classes import ClassText, is_own_name
from lateclasses.errors import InvalidClass, InvalidName, LimitExceeded, NameTaken, UnknownClass, UnknownLoader
from lateclasses.words import TOP, is_name


def way_of(loaders, start, name):
    """Return the way of a name from the loader called start; loaders is a dict of all loaders by name."""
    way = []
    at = start
    while at is not None:
        way.append(at)
        loader = loaders[at]
        if loader.has_text(name):
            return tuple(way)
        at = loader.asked_for(name)
    return ()


def identity_of(loaders, start, name):
    """Return the identity of a name from the loader called start, or None."""
    if name == "top":
        return TOP
    way = way_of(loaders, start, name)
    if len(way) == 0:
        return None
    return (way[-1], name)


def require_name(value):
    """Raise InvalidName unless the object is a name."""
    if not is_name(value):
        raise InvalidName(value)


def require_loader(tables, value):
    """Raise UnknownLoader unless the object is the name of a loader of the tables."""
    if value not in tables:
        raise UnknownLoader(value)


class Loader:
    """Shows a loader of its tables as it is at each moment."""

    def __init__(self, name, rest, asks, texts, loaders):
        self._name = name
        self._rest = rest
        self._asks = dict(asks)
        self._texts = dict(texts)
        # No copy: the ways lead through the loaders as the tables have them at each moment.
        self._loaders = loaders

    @property
    def name(self):
        """The name of the loader."""
        return self._name

    @property
    def rest(self):
        """The name of the loader that is asked for all other names, or None."""
        return self._rest

    @property
    def asks(self):
        """A dict from names to the names of the loaders that are asked for them."""
        return dict(self._asks)

    @property
    def classes(self):
        """The names of its own texts, as a tuple."""
        return tuple(self._texts)

    def has_text(self, name):
        """Tell whether it has a text of this name of its own."""
        return name in self._texts

    def asked_for(self, name):
        """Return the name of the loader that it asks for a name of which it has no text, or None."""
        return self._asks.get(name, self._rest)

    def __contains__(self, x):
        return is_name(x) and identity_of(self._loaders, self._name, x) is not None

    def __getitem__(self, at):
        require_name(at)
        identity = identity_of(self._loaders, self._name, at)
        if identity is None:
            raise UnknownClass(self._name, at)
        return identity

    def __iter__(self):
        raise TypeError("a loader is not iterated over")

    def __eq__(self, other):
        return (isinstance(other, Loader) and self._name == other._name and self._rest == other._rest
                and self._asks == other._asks and self._texts == other._texts)


class Tables:
    """Loaders in the order in which they were added."""

    MOST = 8
    CLASSES = 40

    def __init__(self):
        self._loaders = {}

    @property
    def names(self):
        """The names of the loaders, as a tuple."""
        return tuple(self._loaders)

    def add_loader(self, name, *, rest=None):
        """Add a loader that asks its rest for all names that nothing else is said of."""
        require_name(name)
        if name in self:
            raise NameTaken(name)
        if rest is not None:
            require_loader(self, rest)
        if len(self._loaders) >= Tables.MOST:
            raise LimitExceeded(Tables.MOST)
        self._loaders[name] = Loader(name, rest, {}, {}, self._loaders)

    def add_class(self, loader, text):
        """Give a loader a class text of its own."""
        self.require_class(loader, text)
        self._loaders[loader]._texts[text.name] = text

    def ask(self, loader, name, other):
        """Let a loader ask another one, added before it, for a name."""
        self.require_ask(loader, name, other)
        self._loaders[loader]._asks[name] = other

    def require_class(self, loader, text):
        """Raise the error of add_class, if there is one."""
        require_loader(self, loader)
        if not isinstance(text, ClassText):
            raise InvalidClass(text)
        self._require_free(loader, text.name)
        if len(self._loaders[loader]._texts) >= Tables.CLASSES:
            raise LimitExceeded(Tables.CLASSES)

    def require_ask(self, loader, name, other):
        """Raise the error of ask, if there is one."""
        require_loader(self, loader)
        if not is_own_name(name):
            raise InvalidName(name)
        self._require_earlier(loader, other)
        self._require_free(loader, name)

    def drop(self, names):
        """Remove the loaders of these names; none that stays asks one of them."""
        for name in names:
            del self._loaders[name]

    def way(self, loader, name):
        """Return the way of a name from a loader, () if there is none."""
        require_loader(self, loader)
        require_name(name)
        return way_of(self._loaders, loader, name)

    def identity(self, loader, name):
        """Return the identity of a name from a loader, None if there is none."""
        require_loader(self, loader)
        require_name(name)
        return identity_of(self._loaders, loader, name)

    def text(self, loader, name):
        """Return the text of this name that the loader itself has."""
        require_loader(self, loader)
        if not is_name(name) or name not in self._loaders[loader]._texts:
            raise UnknownClass(loader, name)
        return self._loaders[loader]._texts[name]

    def copy(self):
        """Return independent tables with the same loaders."""
        twin = Tables()
        for loader in list(self._loaders.values()):
            name = loader._name
            twin._loaders[name] = Loader(name, loader._rest, loader._asks, loader._texts, twin._loaders)
        return twin

    def _require_free(self, loader, name):
        """Raise NameTaken if the loader has a text of the name or asks another loader for it."""
        if name in self._loaders[loader]._texts or name in self._loaders[loader]._asks:
            raise NameTaken(name)

    def _require_earlier(self, loader, other):
        """Raise UnknownLoader unless the object is the name of a loader that was added before the other one."""
        require_loader(self, other)
        order = list(self._loaders)
        if order.index(other) >= order.index(loader):
            raise UnknownLoader(other)

    def __len__(self):
        return len(self._loaders)

    def __contains__(self, x):
        return is_name(x) and x in self._loaders

    def __getitem__(self, at):
        require_loader(self, at)
        return self._loaders[at]

    def __iter__(self):
        raise TypeError("tables are not iterated over")

    def __eq__(self, other):
        return isinstance(other, Tables) and self.names == other.names and self._loaders == other._loaders
