"""The eager machine, and how a run on it compares with one on a late machine."""

from lateclasses.errors import InvalidValues
from lateclasses.machine import Machine
from lateclasses.state import State


class EagerMachine(Machine):
    """A machine that loads all that the texts of loaded classes name, and checks all of their methods."""

    def __init__(self):
        self._state = State(True)

    def fresh(self):
        """Return a new machine of the same kind."""
        return EagerMachine()


class Comparison:
    """The reports of the same run on a late and on an eager machine."""

    def __init__(self, late, eager):
        self._late = late
        self._eager = eager

    @property
    def late(self):
        """The report of the late machine."""
        return self._late

    @property
    def eager(self):
        """The report of the eager machine."""
        return self._eager

    @property
    def saved(self):
        """The identities that only the eager machine loaded, as a list."""
        loads = self._late.loads
        return [identity for identity in self._eager.loads if identity not in loads]

    @property
    def agrees(self):
        """Whether both told the same and ended in the same way."""
        return self._late.told == self._eager.told and self._late.ending == self._eager.ending


def give_tables(machine, tables):
    """Give a new machine the loaders of tables."""
    for name in tables.names:
        shown = tables[name]
        machine.add_loader(name, rest=shown.rest)
        for word in shown.classes:
            machine.add_class(name, tables.text(name, word))
        for word, other in shown.asks.items():
            machine.ask(name, word, other)
    return machine


def compared(machine, loader, name, method, values=(), choices=(), *, limit=1000):
    """Perform a run on two new machines with the tables of a machine, of which the second one is eager."""
    if type(values) not in (list, tuple) or not all([value is None for value in values]):
        raise InvalidValues(values)
    tables = machine.tables_now()
    late = give_tables(Machine(), tables).run(loader, name, method, values, choices, limit=limit)
    eager = give_tables(EagerMachine(), tables).run(loader, name, method, values, choices, limit=limit)
    return Comparison(late, eager)
