"""Objects that several tests use."""


class AlwaysEqual:
    """Claims to be equal to everything, and has no hash."""

    def __eq__(self, other):
        return True


class NeverAsked:
    """Fails when it is compared or measured."""

    def __eq__(self, other):
        raise RuntimeError("compared")

    def __len__(self):
        raise RuntimeError("measured")


class Poser:
    """Says that it is of another class, but can nothing of what that can."""

    def __init__(self, posed):
        self.posed = posed

    @property
    def __class__(self):
        return self.posed


class Parts:
    """Has the attributes that it is given, and no class of the package."""

    def __init__(self, **parts):
        for name, part in parts.items():
            setattr(self, name, part)


def no_texts():
    """Objects of many kinds, none of them a text."""
    return [
        None, True, False, 0, 1, -1, 10 ** 30, b"", b"book", (), ("book",), [], ["book"], {}, {"book": "item"},
        set(), {"book"}, frozenset(), range(3), object(), str, int, len, lambda: "book", NotImplemented, ...,
        Exception("book"), AlwaysEqual(), NeverAsked(), Poser(str), Poser(int), Poser(tuple), Poser(list),
    ]


def no_names():
    """Objects that are no names, texts among them."""
    return no_texts() + [
        "", "abcdefghi", "Book", "bOOK", "BOOK", "book1", "1", "bo ok", " book", "book ", " ", "book\n", "\nbook",
        "\n", "bo-ok", "bo_ok", "_", "book.", "`", "{", "book{", "@", "book@shop", "book[]", "[]", "-", "x" * 100000,
    ]


def no_types():
    """Objects that are no types, texts among them."""
    bad = [each for each in no_names() if type(each) is not str or each != "book[]"]
    return bad + [
        "x[][]", "[]x", "x[", "x]", "x[] ", " x[]", "x []", "x[ ]", "x[1]", "x[]\n", "X[]", "abcdefghi[]", "x][", "x[]x",
    ]


GOOD_NAMES = ("a", "z", "az", "top", "book", "abcdefgh", "zzzzzzzz")
GOOD_TYPES = GOOD_NAMES + ("a[]", "top[]", "book[]", "abcdefgh[]")
