"""Class texts."""

from lateclasses.codes import Method
from lateclasses.errors import InvalidClass
from lateclasses.words import is_name, is_series, is_type

MOST_PARTS = 8


def is_own_name(value):
    """Tell whether any object is a name that a loader can have a text of, so not top."""
    return is_name(value) and value != "top"


def are_different(names):
    """Tell whether no name stands twice in a list or tuple of names."""
    return len(set(names)) == len(names)


def are_marks(value):
    """Tell whether any object is a right list or tuple of marks."""
    if not is_series(value, MOST_PARTS):
        return False
    return all([is_own_name(mark) for mark in value]) and are_different(value)


def is_field(value):
    """Tell whether any object is a field: a tuple of a name and a type."""
    return type(value) == tuple and len(value) == 2 and is_name(value[0]) and is_type(value[1])


def are_fields(value):
    """Tell whether any object is a right list or tuple of fields."""
    if not is_series(value, MOST_PARTS) or not all([is_field(field) for field in value]):
        return False
    return are_different([field[0] for field in value])


def are_methods(value):
    """Tell whether any object is a right list or tuple of methods."""
    if not is_series(value, MOST_PARTS) or not all([isinstance(method, Method) for method in value]):
        return False
    return are_different([method.name for method in value])


def require(right, given):
    """Raise InvalidClass with the given object unless it is right."""
    if not right:
        raise InvalidClass(given)


class ClassText:
    """The text of a class, as a loader has it. It never changes."""

    def __init__(self, name, *, above="top", marks=(), fields=(), methods=()):
        require(is_own_name(name), name)
        require(is_name(above), above)
        require(are_marks(marks), marks)
        require(are_fields(fields), fields)
        require(are_methods(methods), methods)
        self._name = name
        self._above = above
        self._marks = tuple(marks)
        self._fields = tuple(fields)
        self._methods = tuple(methods)

    @property
    def name(self):
        """The name of the class."""
        return self._name

    @property
    def above(self):
        """The name of the class above it."""
        return self._above

    @property
    def marks(self):
        """The names of its marks, as a tuple."""
        return self._marks

    @property
    def fields(self):
        """Its fields, as a tuple of tuples of name and type."""
        return self._fields

    @property
    def methods(self):
        """Its methods, as a tuple."""
        return self._methods

    def field(self, name):
        """Return the type of the field of this name, None for any other object."""
        # An object that is no text could claim to be equal to a name.
        if is_name(name):
            for own, kind in self._fields:
                if own == name:
                    return kind
        return None

    def method(self, name):
        """Return the method of this name, None for any other object."""
        if is_name(name):
            for own in self._methods:
                if own.name == name:
                    return own
        return None

    def __eq__(self, other):
        return (isinstance(other, ClassText) and self._name == other._name and self._above == other._above
                and self._marks == other._marks and self._fields == other._fields
                and self._methods == other._methods)
