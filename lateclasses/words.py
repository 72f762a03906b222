"""Names, types and the other plain values that the rest of the package is made of.

The kind of an object is asked by type(x), not by isinstance: a bool is no integer
here, and an object that only poses as a text must not be taken for one.
"""

TOP = ("", "top")

MOST_LETTERS = 8
# Nothing in the text of a journal is nested deeper, and no entry of a journal or a reach.
MOST_DEPTH = 10
ENTRY_DEPTH = 6
ARRAY_SIGN = "[]"


def is_name(value):
    """Tell whether any object is a name: one to eight letters from a to z."""
    if type(value) != str or not 1 <= len(value) <= MOST_LETTERS:
        return False
    return all(["a" <= letter <= "z" for letter in value])


def is_type(value):
    """Tell whether any object is a name, or a name followed by []."""
    return type(value) == str and is_name(value.removesuffix(ARRAY_SIGN))


def element_of(value):
    """Return the name of the elements of an array type, None for a name."""
    if value.endswith(ARRAY_SIGN):
        return value.removesuffix(ARRAY_SIGN)
    return None


def is_number(value, low, high):
    """Tell whether any object is an integer from low to high."""
    return type(value) == int and low <= value <= high


def is_series(value, most):
    """Tell whether any object is a list or tuple of at most so many items."""
    return type(value) in (list, tuple) and len(value) <= most


def are_texts(value, many):
    """Tell whether any object is a tuple of so many texts, as identities and places are."""
    return type(value) == tuple and len(value) == many and all([type(item) == str for item in value])


def is_plain(value, depth):
    """Tell whether any object is made of None, texts, integers and tuples, not nested deeper than that."""
    if type(value) == tuple:
        return depth > 0 and all([is_plain(item, depth - 1) for item in value])
    return value is None or type(value) in (str, int)
