"""The machine beside the slow machine, on random tables and calls."""

import random
import unittest

from lateclasses.eager import EagerMachine
from lateclasses.errors import ClassError, Failing
from lateclasses.judge import first_wrong
from lateclasses.machine import Machine
from lateclasses.questions import open_assumptions
from lateclasses.unloading import needed_by, removable
from tests import programs
from tests.slow_machine import Fail, SlowMachine


def do(machine, name, given):
    """Do a call on a machine: ("result", ..), ("failure", ..) or ("error", class)."""
    try:
        if name == "add_loader":
            result = machine.add_loader(given[0], rest=given[1])
        elif name == "run":
            result = machine.run(*given[:5], limit=given[5], keep=given[6]).parts()
        else:
            result = getattr(machine, name)(*given)
    except Failing as error:
        return ("failure", error.failure)
    except ClassError as error:
        return ("error", type(error))
    return ("result", result)


def do_slowly(slow, name, given):
    """Do a call that is known to raise no other error than a failure."""
    try:
        if name in ("bind", "load", "check"):
            return ("result", getattr(slow, "do_" + name)(*given))
        if name == "run":
            return ("result", slow.run(*given))
        if name == "forget":
            return ("result", slow.kept.pop(given[0]) and None)
        if name in ("take_down", "bring_up"):
            (slow.down.add if name == "take_down" else slow.down.discard)(given[0])
            return ("result", None)
        return ("result", getattr(slow, name)(*given))
    except Fail as error:
        return ("failure", error.failure)


def shown(machine):
    """All that a machine shows."""
    return {
        "loaders": list(machine.loaders),
        "released": set(machine.released),
        "down": set(machine.down),
        "loaded": [(identity, machine.reason(identity)) for identity in machine.list_loaded()],
        "chains": [list(machine[identity].chain) for identity in machine.list_loaded()],
        "equations": machine.list_equations(),
        "assumptions": machine.list_assumptions(),
        "open": open_assumptions(machine),
        "bound": {(loader, name): machine.meaning(loader, name) for loader in machine.loaders
                  for name in programs.NAMES if machine.meaning(loader, name) is not None},
        "tables": {(identity, word): machine.table(identity, word) for identity in machine.list_loaded()
                   for word in programs.METHODS if machine.table(identity, word) is not None},
        "keeps": machine.keeps(),
        "journal": machine.journal(),
        "removable": removable(machine),
        "needed": {loader: needed_by(machine, loader) for loader in machine.loaders},
    }


def shown_slowly(slow):
    return {
        "loaders": slow.loaders,
        "released": slow.released,
        "down": slow.down,
        "loaded": slow.loaded,
        "chains": [slow.chain(identity) for identity, _ in slow.loaded],
        "equations": slow.equations,
        "assumptions": [(*key, tuple(places)) for key, places in slow.assumed],
        "open": [key for key, _ in slow.assumed if key not in slow.decided],
        "bound": slow.bound,
        "tables": {(identity, word): table for identity, word, table in slow.checked},
        "keeps": {name: str(thing) for name, thing in slow.kept.items()},
        "journal": slow.journal,
        "removable": slow.removable(),
        "needed": {loader: [one for one in slow.loaders if loader in slow.needed_by(one)] for loader in slow.loaders},
    }


def played(seed, eager=False, calls=30):
    """A machine and a slow machine on which the same random calls are done one after another."""
    rng = random.Random(seed)
    plan, first, more = programs.some_program(rng)
    machine, slow = (EagerMachine() if eager else Machine()), SlowMachine(eager)
    for name, given in first:
        yield machine, slow, name, given
    for _ in range(calls):
        if not machine.loaders:
            return
        tables = machine.tables_now()
        loaded = [(identity, tables.text(*identity)) for identity in machine.list_loaded()]
        yield machine, slow, *programs.random_call(rng, plan, machine.loaders, loaded, machine.keeps(), more)


class TestRandomMachines(unittest.TestCase):
    maxDiff = None

    def hold(self, seed, eager, counts):
        for machine, slow, name, given in played(seed, eager):
            before = shown(machine)
            outcome = do(machine, name, given)
            if outcome[0] == "error":
                self.assertEqual(shown(machine), before, (seed, name, given))
                counts[outcome[1].__name__] = counts.get(outcome[1].__name__, 0) + 1
                continue
            self.assertEqual(do_slowly(slow, name, given), outcome, (seed, name, given))
            now = shown(machine)
            self.assertEqual(now, shown_slowly(slow), (seed, name, given))
            if outcome[0] == "failure":
                self.assertEqual(now, before)
            self.count(name, outcome, counts)
        self.assertIsNone(first_wrong(machine.journal()), seed)

    def count(self, name, outcome, counts):
        kinds = [outcome[1][0]] if outcome[0] == "failure" else []
        if name == "run" and outcome[0] == "result":
            ending = outcome[1][1]
            kinds.append(ending[1][0] if ending[0] == "failed" else ending[0])
        for kind in kinds:
            counts[kind] = counts.get(kind, 0) + 1

    def test_late(self):
        counts = {}
        for seed in range(600):
            with self.subTest(seed=seed):
                self.hold(seed, False, counts)
        # Each way to end came up.
        for kind in ("returned", "starved", "stopped", "NoClass", "Equation", "Refused", "Shape", "Method", "Down",
                     "Null", "NoField", "NoMethod", "NoMark", "Cast", "Store", "Index", "NoEntry", "Value",
                     "NameFixed"):
            self.assertGreater(counts.get(kind, 0), 0, (kind, counts))

    def test_eager(self):
        counts = {}
        for seed in range(1000, 1300):
            with self.subTest(seed=seed):
                self.hold(seed, True, counts)
        for kind in ("returned", "NoClass", "Equation", "Refused", "Shape", "Down"):
            self.assertGreater(counts.get(kind, 0), 0, (kind, counts))


if __name__ == "__main__":
    unittest.main()
