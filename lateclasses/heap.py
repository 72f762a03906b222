"""The objects and arrays that runs make, and the names under which some of them are kept.

Each one has a number; a value is such a number, or None for null. So a copy needs no
look at what leads to what, and objects may lead to each other in circles.
"""

from lateclasses.words import ARRAY_SIGN, TOP


class Thing:
    """An object, or an array: then it has a number of elements."""

    def __init__(self, home, many, slots):
        # The identity of the class of an object; of an array the loader of the code
        # that made it, and the name that stood there.
        self.home = home
        self.many = many
        self.slots = dict(slots)


class Heap:
    """Objects and arrays by their numbers."""

    def __init__(self):
        self.things = {}
        self.latest = 0
        self.kept = {}

    def make_object(self, identity):
        """Return a new object, all of its fields null."""
        return self._made(Thing(identity, None, {}))

    def make_array(self, loader, name, many):
        """Return a new array, all of its elements null."""
        return self._made(Thing((loader, name), many, {}))

    def _made(self, thing):
        self.latest += 1
        self.things[self.latest] = thing
        return self.latest

    def home_of(self, value):
        """Return what an object or array keeps: a loader and a name."""
        return self.things[value].home

    def many_of(self, value):
        """Return the number of elements of an array, None for an object."""
        return self.things[value].many

    def class_of(self, value):
        """Return the identity of the class of an object; the only class of an array is top."""
        thing = self.things[value]
        return thing.home if thing.many is None else TOP

    def slot(self, value, key):
        """Return what a field or an element is."""
        return self.things[value].slots.get(key)

    def fill(self, value, key, held):
        """Let a field or an element be a value."""
        self.things[value].slots[key] = held

    def text(self, value):
        """Return what is told of a value."""
        if value is None:
            return "null"
        loader, name = self.home_of(value)
        sign = "" if self.many_of(value) is None else ARRAY_SIGN
        return f"{name}{sign}@{loader}"

    def keep(self, name, value):
        """Keep a value under a name; null is not kept."""
        if value is None:
            self.forget(name)
        else:
            self.kept[name] = value

    def forget(self, name):
        """Let a name have nothing."""
        if name in self.kept:
            del self.kept[name]

    def kept_texts(self):
        """Return a dict from the names of what is kept to what is told of it."""
        return {name: self.text(value) for name, value in self.kept.items()}

    def reached(self):
        """Return the numbers of all that is kept and all that it leads to, as a dict."""
        found = {}
        waiting = list(self.kept.values())
        while len(waiting) > 0:
            value = waiting.pop()
            if value is not None and value not in found:
                found[value] = True
                waiting.extend(list(self.things[value].slots.values()))
        return found

    def clean(self):
        """Give up all that nothing leads to that is kept."""
        self.things = {value: self.things[value] for value in self.reached()}

    def needed(self):
        """Return the names of the loaders that kept objects need, as a dict."""
        return {self.home_of(value)[0]: True for value in self.reached() if self.home_of(value) != TOP}

    def copy(self):
        """Return an independent heap with the same objects and arrays."""
        twin = Heap()
        twin.latest = self.latest
        twin.kept = dict(self.kept)
        twin.things = {value: Thing(thing.home, thing.many, thing.slots) for value, thing in self.things.items()}
        return twin
