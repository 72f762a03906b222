"""Tables of sets: what the registers of a method can hold at each of its instructions.

A set is None (the register must not be used) or a tuple of types in ascending order.
A row is a tuple of one set for each register, and a table a tuple of one row, or None,
for each instruction.
"""

from lateclasses.codes import ARGS_AT, TYPES_AT, Method
from lateclasses.errors import InvalidMethod, InvalidName, InvalidTable
from lateclasses.words import ARRAY_SIGN, element_of, is_name, is_type

# The instructions that give their first register a set, and where the one type of
# this set stands in the instruction; None if the set is found in another way.
GIVEN_AT = {"new": 2, "cast": 3, "get": 5, "call": 6, "ask": 6, "array": None, "null": None, "move": None, "load": None}


def element_names(held):
    """Return the set of the element names of all arrays in a set, None for None."""
    if held is None:
        return None
    # X[] and Y[] are in the same order as X and Y, so this is ascending, too.
    names = [element_of(kind) for kind in held]
    return tuple([name for name in names if name is not None])


def given_set(step, row):
    """Return the set that an instruction gives its first register."""
    at = GIVEN_AT[step[0]]
    if at is not None:
        return (step[at],)
    if step[0] == "array":
        return (step[2] + ARRAY_SIGN,)
    if step[0] == "null":
        return ()
    if step[0] == "move":
        return row[step[2]]
    return element_names(row[step[2]])


def with_set(row, spot, held):
    """Return the row with another set for the register spot."""
    return row[:spot] + (held,) + row[spot + 1:]


def leads(code, index, row):
    """Return where an instruction leads from its row: a list of tuples (index, row)."""
    step = code[index]
    if step[0] == "return":
        return []
    if step[0] == "jump":
        return [(step[1], row)]
    if step[0] == "choose":
        return [(index + 1, row), (step[1], row)]
    if step[0] == "ifnull":
        return [(index + 1, row), (step[2], with_set(row, step[1], ()))]
    if step[0] == "ifis":
        return [(index + 1, row), (step[3], with_set(row, step[1], (step[2],)))]
    if step[0] in GIVEN_AT:
        return [(index + 1, with_set(row, step[1], given_set(step, row)))]
    return [(index + 1, row)]


def first_row(owner, method):
    """Return what is known when a method of the class called owner begins."""
    known = [(owner,)] + [(kind,) for kind in method.params]
    return tuple(known + [None] * (method.size - len(known)))


def is_set_within(one, other):
    """Tell whether a set is within another one."""
    if one is None or other is None:
        return other is None
    return one == other or len(set(one) - set(other)) == 0


def is_row_within(one, other):
    """Tell whether a row is within another one, or None."""
    if other is None:
        return False
    return all([is_set_within(held, more) for held, more in zip(one, other)])


def union(one, other):
    """Return the least set that both sets are within."""
    if one is None or other is None:
        return None
    if one == other:
        return one
    return tuple(sorted(set(one) | set(other)))


def row_union(one, other):
    """Return the least row that a row, or None, and another row are within."""
    if one is None:
        return other
    return tuple([union(held, more) for held, more in zip(one, other)])


def find_least_table(owner, method):
    """Return the least table: beginning with the first row, what is led to grows until nothing changes."""
    code = method.code
    rows = [None] * len(code)
    rows[0] = first_row(owner, method)
    waiting = [0]
    while len(waiting) > 0:
        index = waiting.pop()
        led = leads(code, index, rows[index])
        for target, row in led:
            # What leads behind the last instruction has no row to grow.
            if target < len(code) and not is_row_within(row, rows[target]):
                rows[target] = row_union(rows[target], row)
                if target not in waiting:
                    waiting.append(target)
    return tuple(rows)


def is_set(value):
    """Tell whether any object is a set: None or a tuple of different types in ascending order."""
    if value is None:
        return True
    if type(value) != tuple or not all([is_type(kind) for kind in value]):
        return False
    return all([low < high for low, high in zip(value, value[1:])])


def is_row(value, size):
    """Tell whether any object is a row of this size, or None."""
    if value is None:
        return True
    return type(value) == tuple and len(value) == size and all([is_set(held) for held in value])


def is_table(method, value):
    """Tell whether any object is a table of the method, closed or not."""
    if type(value) != tuple or len(value) != len(method.code):
        return False
    return all([is_row(row, method.size) for row in value])


def is_closed_table(owner, method, value):
    """Tell whether any object is a closed table of the method."""
    if not is_table(method, value) or not is_row_within(first_row(owner, method), value[0]):
        return False
    for index, row in enumerate(value):
        if row is not None:
            for target, led in leads(method.code, index, row):
                if target < len(value) and not is_row_within(led, value[target]):
                    return False
    return True


def assumption_of(one, other):
    """Return under which assumption (A, B) one type lies below another: () if under none, None if it never does."""
    if one == other or other == "top":
        return ()
    inner, outer = element_of(one), element_of(other)
    if inner is not None and outer is not None:
        return assumption_of(inner, outer)
    if inner is not None or outer is not None or one == "top":
        return None
    return (one, other)


def uses_of_args(step):
    """Return the uses of the arguments of a call or an ask."""
    return list(zip(step[ARGS_AT], step[TYPES_AT]))


def uses_of(step, result):
    """Return what an instruction uses: a list of tuples (register, use), in the order in which it uses them.

    A use is the type as which the register is used, [] for an array, None for any set.
    """
    word = step[0]
    if word in ("move", "cast"):
        return [(step[2], None)]
    if word in ("tell", "ifnull", "ifis"):
        return [(step[1], None)]
    if word == "get":
        return [(step[2], step[3])]
    if word == "put":
        return [(step[1], step[2]), (step[5], step[4])]
    if word == "call":
        return [(step[2], step[3])] + uses_of_args(step)
    if word == "ask":
        return [(step[2], None)] + uses_of_args(step)
    if word == "return":
        return [(step[1], result)]
    if word == "load":
        return [(step[2], ARRAY_SIGN)]
    if word == "store":
        return [(step[1], ARRAY_SIGN), (step[3], None)]
    return []


def can_be_used(kind, use):
    """Tell whether what a type allows can be used so, perhaps under an assumption."""
    if use is None:
        return True
    if use == ARRAY_SIGN:
        return element_of(kind) is not None
    return assumption_of(kind, use) is not None


def reason_of_use(index, spot, held, use):
    """Return why a register with this set must not be used so, or None."""
    if held is None:
        return ("unset", index, spot)
    for kind in held:
        if not can_be_used(kind, use):
            return ("never", index, kind, use)
    return None


def reason_of_row(method, index, row):
    """Return the first reason why an instruction is wrong with this row, or None."""
    for spot, use in uses_of(method.code[index], method.result):
        reason = reason_of_use(index, spot, row[spot], use)
        if reason is not None:
            return reason
    if len(method.code) in [target for target, _ in leads(method.code, index, row)]:
        return ("end", index)
    return None


def first_reason(method, table):
    """Return the first reason that a row of a table has, or None."""
    for index, row in enumerate(table):
        if row is not None:
            reason = reason_of_row(method, index, row)
            if reason is not None:
                return reason
    return None


def assumptions_of_row(method, index, row):
    """Return the assumptions (A, B) of an instruction with a row that has no reason, as they come up."""
    found = []
    for spot, use in uses_of(method.code[index], method.result):
        if use is not None and use != ARRAY_SIGN:
            found.extend([assumption_of(kind, use) for kind in row[spot]])
    return [assumption for assumption in found if len(assumption) > 0]


def require(owner, method):
    """Raise InvalidName or InvalidMethod unless these are a name and a method."""
    if not is_name(owner):
        raise InvalidName(owner)
    if not isinstance(method, Method):
        raise InvalidMethod(method)


def least_table(owner, method):
    """Return the least table of a method of the class called owner, also of a wrong method."""
    require(owner, method)
    return find_least_table(owner, method)


def wrong_reason(owner, method):
    """Return the reason of a wrong method, None for a right one."""
    require(owner, method)
    return first_reason(method, find_least_table(owner, method))


def is_closed(owner, method, value):
    """Tell whether any object is a closed table of the method."""
    require(owner, method)
    return is_closed_table(owner, method, value)


def is_right(owner, method, value):
    """Tell whether any object is a right table of the method."""
    require(owner, method)
    return is_closed_table(owner, method, value) and first_reason(method, value) is None


def needs_of(method, table):
    """Return the needs (A, B, index) of a table that is known to be right, as a tuple."""
    found = {}
    for index, row in enumerate(table):
        if row is not None:
            for one, other in assumptions_of_row(method, index, row):
                found[(one, other, index)] = True
    return tuple(found)


def needs(owner, method, table):
    """Return the needs (A, B, index) of a right table, as a tuple."""
    if not is_right(owner, method, table):
        raise InvalidTable(table)
    return needs_of(method, table)
