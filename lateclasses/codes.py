"""Instructions, and the methods that are made of them."""

from lateclasses.errors import InvalidMethod
from lateclasses.words import is_name, is_number, is_series, is_type

MOST_TYPES = 4
MOST_SIZE = 10
MOST_CODE = 40
MOST_DIGIT = 9

# What stands behind the word of an instruction: r is a register, C the name of a
# class or mark, f that of a field or method, T a type, i a digit, t an index.
FORMS = {
    "new": ("r", "C"),
    "array": ("r", "C", "i"),
    "null": ("r",),
    "move": ("r", "r"),
    "get": ("r", "r", "C", "f", "T"),
    "put": ("r", "C", "f", "T", "r"),
    "call": ("r", "r", "C", "f", "types", "T", "args"),
    "ask": ("r", "r", "C", "f", "types", "T", "args"),
    "cast": ("r", "r", "C"),
    "load": ("r", "r", "i"),
    "store": ("r", "i", "r"),
    "jump": ("t",),
    "ifnull": ("r", "t"),
    "ifis": ("r", "C", "t"),
    "choose": ("t",),
    "tell": ("r",),
    "return": ("r",),
}
TYPES_AT = 5
ARGS_AT = 7


def are_types(items):
    """Tell whether all items of a list or tuple are types."""
    return all([is_type(item) for item in items])


def are_args(items, size):
    """Tell whether all items of a list or tuple are registers below a size."""
    return all([is_number(item, 0, size - 1) for item in items])


def fits(kind, item, size, length):
    """Tell whether any object is of a kind, with registers below size and indices below length."""
    if kind == "r":
        return is_number(item, 0, size - 1)
    if kind == "t":
        return is_number(item, 0, length - 1)
    if kind == "i":
        return is_number(item, 0, MOST_DIGIT)
    if kind == "T":
        return is_type(item)
    if kind == "types":
        return type(item) == tuple and len(item) <= MOST_TYPES and are_types(item)
    if kind == "args":
        return type(item) == tuple and are_args(item, size)
    return is_name(item)


def has_word(value):
    """Tell whether any object is a tuple that begins with the word of an instruction."""
    # Only a text is looked up: other objects may have no hash.
    return type(value) == tuple and len(value) > 0 and type(value[0]) == str and value[0] in FORMS


def is_instruction_within(value, size, length):
    """Tell whether any object is an instruction with registers below size and indices below length."""
    if not has_word(value):
        return False
    form = FORMS[value[0]]
    if len(value) != 1 + len(form):
        return False
    if not all([fits(kind, item, size, length) for kind, item in zip(form, value[1:])]):
        return False
    return "args" not in form or len(value[TYPES_AT]) == len(value[ARGS_AT])


def is_instruction(value):
    """Tell whether any object is an instruction, in whatever method."""
    return is_instruction_within(value, MOST_SIZE, MOST_CODE)


def is_code(value, size):
    """Tell whether any object is the code of a method of this size."""
    if not is_series(value, MOST_CODE) or len(value) == 0:
        return False
    return all([is_instruction_within(item, size, len(value)) for item in value])


def require(right, given):
    """Raise InvalidMethod with the given object unless it is right."""
    if not right:
        raise InvalidMethod(given)


class Method:
    """A method of a class text. It never changes."""

    def __init__(self, name, params, result, size, code):
        require(is_name(name), name)
        require(is_series(params, MOST_TYPES) and are_types(params), params)
        require(is_type(result), result)
        require(is_number(size, 1 + len(params), MOST_SIZE), size)
        require(is_code(code, size), code)
        self._name = name
        self._params = tuple(params)
        self._result = result
        self._size = size
        self._code = tuple(code)

    @property
    def name(self):
        """The name of the method."""
        return self._name

    @property
    def params(self):
        """The types of the parameters, as a tuple."""
        return self._params

    @property
    def result(self):
        """The type of the result."""
        return self._result

    @property
    def size(self):
        """The number of registers."""
        return self._size

    @property
    def code(self):
        """The instructions, as a tuple."""
        return self._code

    def __eq__(self, other):
        return (isinstance(other, Method) and self._name == other._name and self._params == other._params
                and self._result == other._result and self._size == other._size and self._code == other._code)
