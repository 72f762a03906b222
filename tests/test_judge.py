"""The journal and the judge: point 23, and point 3 (i)."""

import random
import unittest

from lateclasses.errors import InvalidJournal
from lateclasses.judge import first_wrong
from lateclasses.machine import Machine
from tests import slow_judge
from tests.builders import eager, machine, text
from tests.samples import AlwaysEqual, no_texts
from tests.test_random_machine import do, played

BASE = (("loader", "shop", None),), (("class", "shop", "class item top"),)
BIND, LOAD = ("bind", "shop", "item", ("shop", "item")), ("load", ("shop", "item"), ("asked",))


def journals(seeds, eager_too=True):
    """The journals of random machines that have some length."""
    for seed in seeds:
        for one, _, name, given in played(seed, eager_too and seed % 3 == 0):
            do(one, name, given)
        yield seed, one.journal()


class TestForm(unittest.TestCase):
    def test_no_journals(self):
        one = machine("loader shop")
        for given in no_texts() + ["journal", tuple(one.journal()), [None], [()] + [[]], [([],)], [(("loader", "a", None), [])],
                                   [("loader", "shop", None)], [["loader"]], [(None,)], [{}], one, [((),), "x"], [((), 5)]]:
            if type(given) is list and given == []:
                continue
            with self.assertRaises(InvalidJournal) as caught:
                first_wrong(given)
            self.assertIs(caught.exception.given, given)

    def test_wrong_at_once(self):
        self.assertIsNone(first_wrong([]))
        for change in ((), ((),), (("loader",),), (("none", "shop", None),), ((None,),), ((5, "shop", None),),
                       (("loader", "shop", None, None),), ((["loader"], "shop", None),), ((AlwaysEqual(), "shop", None),),
                       ((True,),), (("loader", "Shop", None),), (("loader", ["shop"], None),), (("loader", "shop", "shop"),),
                       (("loader", "shop", {}),), (("loader", AlwaysEqual(), None),)):
            self.assertEqual(first_wrong([change]), 0)
            self.assertEqual(first_wrong([BASE[0], change, BASE[1]]), 1)

    def test_by_name(self):
        self.assertIsNone(first_wrong(journal=[]))


class TestEntries(unittest.TestCase):
    """Journals written by hand."""

    def wrong(self, *changes, index=None):
        journal = list(changes)
        self.assertEqual(first_wrong(journal), len(journal) - 1 if index is None else index)
        self.assertEqual(slow_judge.first_wrong(journal), first_wrong(journal))

    def right(self, *changes):
        self.assertIsNone(first_wrong(list(changes)))
        self.assertIsNone(slow_judge.first_wrong(list(changes)))

    def test_entries_of_one_change_or_of_several(self):
        self.right(*BASE, (BIND, LOAD))
        self.right(*BASE, (BIND,), (LOAD,))
        self.right((BASE[0][0], BASE[1][0], BIND, LOAD))
        self.wrong(*BASE, (LOAD,))
        self.wrong(*BASE, (LOAD, BIND))
        self.wrong(*BASE, (BIND, LOAD, LOAD))
        self.wrong(*BASE, (BIND, LOAD), (BIND,))
        self.wrong(*BASE, (BIND, LOAD), ())

    def test_tables(self):
        self.wrong(*BASE, BASE[0])
        self.wrong(*BASE, BASE[1])
        self.wrong(*BASE, (("class", "shop", "class item top\n"),))
        self.wrong(*BASE, (("class", "shop", "class  pen top"),))
        self.wrong(*BASE, (("class", "shop", "class pen top;mark sold"),))
        self.wrong(*BASE, (("class", "shop", "class top top"),))
        self.wrong(*BASE, (("class", "none", "class pen top"),))
        self.wrong(*BASE, (("class", "shop", None),))
        self.wrong(*BASE, (("ask", "shop", "pen", "shop"),))
        self.right(*BASE, (("loader", "desk", "shop"), ("ask", "desk", "item", "shop")))
        self.wrong(*BASE, (("loader", "desk", "shop"), ("ask", "desk", "item", "shop")), (("ask", "desk", "item", "shop"),))
        # What is fixed.
        bound = (("bind", "desk", "pen", ("shop", "pen")),)
        more = *BASE, (("class", "shop", "class pen top"),), (("loader", "desk", "shop"),)
        self.right(*more, (("class", "desk", "class pen top"),))
        self.wrong(*more, bound, (("class", "desk", "class pen top"),))
        self.wrong(*more, bound, (("ask", "desk", "pen", "shop"),))

    def test_many_tables(self):
        loaders = [(("loader", name, None),) for name in "abcdefgh"]
        self.right(*loaders)
        self.wrong(*loaders, (("loader", "i", None),))

    def test_binding(self):
        self.wrong(*BASE, (("bind", "shop", "item", ("desk", "item")),))
        self.wrong(*BASE, (("bind", "shop", "pen", ("shop", "pen")),))
        self.wrong(*BASE, (("bind", "shop", "top", ("", "top")),))
        self.wrong(*BASE, (("bind", "none", "item", ("shop", "item")),))
        self.wrong(*BASE, (("bind", "shop", "item", None),))
        self.wrong(*BASE, (("bind", "shop", "item", ["shop", "item"]),))
        self.wrong(*BASE, (("bind", "shop", None, ("shop", "item")),))

    def test_reasons(self):
        more = *BASE, (("class", "shop", "class book item\nfield f pen"),), (("class", "shop", "class pen top"),)
        book = ("bind", "shop", "book", ("shop", "book"))
        pen = ("bind", "shop", "pen", ("shop", "pen"))
        above = ("load", ("shop", "item"), ("above", ("shop", "book")))
        load = ("load", ("shop", "book"), ("run",))
        self.right(*more, (BIND, book, above, load))
        self.wrong(*more, (BIND, book, above))
        self.wrong(*more, (BIND, book, above), (load,), index=4)
        self.wrong(*more, (BIND, LOAD, book, load, pen, ("load", ("shop", "pen"), ("above", ("shop", "book")))))
        self.wrong(*more, (BIND, book, above, ("load", ("shop", "book"), ("walked",))))
        eagerly = ("load", ("shop", "pen"), ("eager", ("shop", "book")))
        self.right(*more, (BIND, book, above, load, pen, eagerly))
        self.right(*more, (BIND, book, above, load), (pen, eagerly))
        self.wrong(*more, (BIND, book, above, load), (pen, ("load", ("shop", "pen"), ("eager", ("shop", "item")))))
        self.wrong(*more, (BIND, book, above, load), (pen, ("load", ("shop", "pen"), ("walked", ("shop", "book")))))
        self.wrong(*more, (pen, eagerly))
        # item is loaded above book, and so not eagerly for its sake.
        self.wrong(*more, (BIND, book, ("load", ("shop", "item"), ("eager", ("shop", "book"))), load))
        for reason in (None, (), ("above",), ("above", None), ("new", None), ("new", ("shop", "book", "m", 0)),
                       ("asked", None), ("eager", ("", "top")), ("eager", ()), "run", ("above", ("", "top"))):
            self.wrong(*more, (BIND, ("load", ("shop", "item"), reason)))

    def test_eager_reasons_do_not_lead_back(self):
        more = *BASE, (("class", "shop", "class one item\nfield f two"),), (("class", "shop", "class two top\nfield f item"),)
        one, two = ("bind", "shop", "one", ("shop", "one")), ("bind", "shop", "two", ("shop", "two"))
        loads = (("load", ("shop", "item"), ("above", ("shop", "one"))), ("load", ("shop", "one"), ("asked",)),
                 ("load", ("shop", "two"), ("eager", ("shop", "one"))))
        self.right(*more, (BIND, one, two, *loads))
        self.wrong(*more, (BIND, one, two, ("load", ("shop", "two"), ("asked",)),
                           ("load", ("shop", "item"), ("eager", ("shop", "one"))), loads[1]))
        circle = ("class", "shop", "class ring item\nmark two\nfield g ring")
        ring = ("bind", "shop", "ring", ("shop", "ring"))
        self.wrong(*more, (circle,), (BIND, two, ring, ("load", ("shop", "item"), ("above", ("shop", "ring"))),
                                      ("load", ("shop", "ring"), ("eager", ("shop", "item")))))
        back = *BASE[:1], (("class", "shop", "class item top\nfield f book"),), (("class", "shop", "class book item"),)
        book = ("bind", "shop", "book", ("shop", "book"))
        self.wrong(*back, (BIND, book, ("load", ("shop", "item"), ("above", ("shop", "book"))),
                           ("load", ("shop", "book"), ("eager", ("shop", "item")))))
        self.right(*back, (BIND, book, ("load", ("shop", "item"), ("run",)), ("load", ("shop", "book"), ("eager", ("shop", "item")))))

    def test_new(self):
        text = "class desk top\nmethod m 2 top\nchoose 3\nnew 1 item\nreturn 1\njump 5\nnew 1 item\nreturn 0\nend"
        desk = ("bind", "shop", "desk", ("shop", "desk")), ("load", ("shop", "desk"), ("run",))
        one = machine("loader shop", "class shop " + text[6:].replace("\n", ";"), "class shop item top")
        one.load("shop", "desk")
        table = one.check(("shop", "desk"), "m")
        more = *BASE, (("class", "shop", text),), desk
        check = (("check", ("shop", "desk"), "m", table),)
        self.right(*more, check, (BIND, ("load", ("shop", "item"), ("new", ("shop", "desk", "m", 1)))))
        self.right(*more, (check[0], BIND, ("load", ("shop", "item"), ("new", ("shop", "desk", "m", 1)))))
        self.wrong(*more, (BIND, ("load", ("shop", "item"), ("new", ("shop", "desk", "m", 1)))))
        for index in (0, 2, 4, 5, 6, 7, 9, -1, -2, -5, None, True, "1", (1,)):
            self.wrong(*more, check, (BIND, ("load", ("shop", "item"), ("new", ("shop", "desk", "m", index)))))
        self.wrong(*more, check, check)
        self.wrong(*more, (("check", ("shop", "desk"), "n", table),))
        self.wrong(*more, (("check", ("shop", "item"), "m", table),))
        self.wrong(*more, (("check", ("shop", "desk"), "m", table[:-1]),))
        first = "class rack top\nmethod m 2 top\nnew 1 item\nreturn 1\nend"
        rack = ("bind", "shop", "rack", ("shop", "rack")), ("load", ("shop", "rack"), ("run",)), (
            "check", ("shop", "rack"), "m", ((("rack",), None), (("rack",), ("item",))))
        self.right(*BASE, (("class", "shop", first),), rack,
                   (BIND, ("load", ("shop", "item"), ("new", ("shop", "rack", "m", 0)))))
        # Another right table reaches more; the reason goes by the least one.
        wide = table[:4] + ((("desk",), None), table[5])
        self.right(*more, (("check", ("shop", "desk"), "m", wide),))
        self.wrong(*more, (("check", ("shop", "desk"), "m", wide),),
                   (BIND, ("load", ("shop", "item"), ("new", ("shop", "desk", "m", 4)))))

    def test_release_and_unload(self):
        release, unload = ("release", "shop"), ("unload", ("shop",), ())
        self.right(*BASE, (release,))
        self.wrong(*BASE, (release,), (release,))
        self.wrong(*BASE, (("release", "none"),))
        self.right(*BASE, (release,), (unload,))
        self.right(*BASE, (release, unload))
        self.wrong(*BASE, (unload,))
        self.wrong(*BASE, (release,), (("unload", (), ()),))
        self.wrong(*BASE, (release,), (("unload", ("shop", "shop"), ()),))
        self.wrong(*BASE, (release,), (("unload", ["shop"], ()),))
        self.wrong(*BASE, (release,), (("unload", ("shop",), None),))
        self.wrong(*BASE, (release,), (("unload", ("shop",), (("item", "shop", "desk", ("gone",)),)),))
        self.wrong(*BASE, (release,), (unload,), BASE[0])
        self.wrong(*BASE, (("loader", "desk", "shop"),), (release,), (unload,))
        two = *BASE, (("loader", "desk", "shop"),), (release,), (("release", "desk"),)
        self.right(*two, (("unload", ("shop", "desk"), ()),))
        # Not the greatest set: the judge knows no kept objects.
        self.right(*two, (("unload", ("desk",), ()),), (("unload", ("shop",), ()),))
        self.wrong(*two, (("unload", ("desk", "shop"), ()),))
        self.wrong(*two, (("unload", ("shop",), ()),))

    def test_unload_wants_all_settled(self):
        two = *BASE, (("class", "shop", "class book item"),), (("loader", "desk", None),), (("release", "desk"),)
        unload = ("unload", ("desk",), ())
        book = ("bind", "shop", "book", ("shop", "book"))
        above, load = ("load", ("shop", "item"), ("above", ("shop", "book"))), ("load", ("shop", "book"), ("asked",))
        self.right(*two, (BIND, book, above, load, unload))
        self.wrong(*two, (BIND, book, above, unload, load))

    def test_closed(self):
        one = machine("loader base", "class base box top;field held item", "class base item top", "loader shop base",
                      "class shop user top;method m 3 item;null 1;get 2 1 box held item;return 2;end")
        one.load("shop", "user")
        one.check(("shop", "user"), "m")
        one.bind("base", "item")
        one.load("shop", "box")
        journal = one.journal()
        self.assertEqual([entry[0] for entry in journal[-1]], ["bind", "bind", "load", "equation", "bind"])
        self.assertIsNone(first_wrong(journal))
        for entries in (journal[-1][:3], journal[-1][:4], journal[-1][:3] + journal[-1][4:]):
            self.wrong(*journal[:-1], entries)
        equation = journal[-1][3]
        for other in (("equation", "item", "base", "shop", equation[4]), ("equation", "box", *equation[2:]),
                      ("equation", "item", "shop", "base", equation[4][:3] + (0,)),
                      ("equation", "item", "shop", "base", equation[4][:3] + (None,)),
                      ("equation", "item", "shop", "base", ("gone",)), ("equation", "item", "shop", "shop", equation[4]),
                      ("equation", "top", *equation[2:]), ("equation", "item", "shop", "base", equation[4][:3] + (True,))):
            self.wrong(*journal[:-1], journal[-1][:3] + (other,) + journal[-1][4:])

    def test_uses_that_are_not_due(self):
        one = machine("loader base", "class base sold top", "class base box top;mark sold;field held item"
                      ";method show 2 item item;null 1;return 1;end", "loader shop base",
                      "class shop user top;method m 3 top;null 1;ask 2 1 sold show item item 1;null 1;get 2 1 box held item"
                      ";return 0;end")
        one.load("base", "box")
        one.load("shop", "user")
        one.check(("shop", "user"), "m")
        asked = ("equation", "item", "shop", "base", ("shop", "user", "m", 1))
        got = ("equation", "item", "shop", "base", ("shop", "user", "m", 3))
        self.wrong(*one.journal(), (asked,))
        self.wrong(*one.journal(), (got,))
        bound = ("bind", "shop", "sold", ("base", "sold")), ("bind", "shop", "box", ("base", "box"))
        far = (("loader", "far", None),)
        self.right(*one.journal(), far, (bound[0], asked))
        self.wrong(*one.journal(), far, (bound[0], asked, ("equation", "item", "far", "base", asked[4])))
        self.wrong(*one.journal(), far, (bound[0], asked, ("equation", "item", "shop", "far", asked[4])))
        self.right(*one.journal(), (bound[0], asked))
        self.right(*one.journal(), (bound[1], got))
        self.wrong(*one.journal(), (bound[0], got))
        self.wrong(*one.journal(), (bound[1], asked))
        self.wrong(*one.journal(), bound)

    def test_fields_and_methods_that_do_not_fit(self):
        book = ("bind", "shop", "book", ("shop", "book")), ("load", ("shop", "book"), ("asked",))
        for item, text in (("field f item", "field f item"), ("method m 1 top\nreturn 0\nend", "method m 1 item\nreturn 0\nend"),
                           ("method m 1 top\nreturn 0\nend", "method m 2 top top\nreturn 0\nend")):
            more = BASE[0], (("class", "shop", "class item top\n" + item),), (("class", "shop", "class book item\n" + text),)
            self.wrong(*more, (BIND, LOAD) + book)
        more = *BASE, (("class", "shop", "class book item\nmark sold"),), (("class", "shop", "class sold top"),)
        self.wrong(*more, (BIND, LOAD) + book)
        self.right(*more, (BIND, LOAD, ("bind", "shop", "sold", ("shop", "sold"))) + book)
        self.wrong(*more, book)

    def overriding(self):
        one = machine("loader base", "class base item top;method m 2 pen;null 1;return 1;end", "loader shop base",
                      "class shop book item;method m 2 pen;null 1;return 1;end", "class shop bill item")
        one.load("shop", "item")
        return one

    def test_equations_of_overrides(self):
        one = self.overriding()
        begun = one.journal()
        one.load("shop", "book")
        bind, equation, load = one.journal()[-1][:1], one.journal()[-1][1], one.journal()[-1][-1]
        self.assertEqual(equation, ("equation", "pen", "shop", "base", ("shop", "book", "m", None)))
        bind = tuple(entry for entry in one.journal()[-1] if entry[0] == "bind") or bind
        self.right(*begun, bind + (equation, load))
        self.right(*begun, bind + (load, equation))
        # More than is needed.
        begun = begun[:1] + [(("loader", "lib", None),)] + begun[1:]
        self.right(*begun, bind + (equation, load))
        for other in (("equation", "item", "shop", "base", ("shop", "book", "m", None)),
                      ("equation", "pen", "shop", "lib", ("shop", "book", "m", None)),
                      ("equation", "pen", "lib", "base", ("shop", "book", "m", None))):
            self.wrong(*begun, bind + (equation, other, load))
            self.wrong(*begun, bind + (other, equation, load))
        # Left out, or noted without the class.
        self.wrong(*begun, bind + (load,))
        self.wrong(*begun, (equation,))
        self.wrong(*begun, bind + (equation,))
        self.wrong(*begun, (equation,), bind + (load,), index=len(begun))
        for other in (("equation", "pen", "base", "shop", ("shop", "book", "m", None)),
                      ("equation", "pen", "shop", "base", ("shop", "book", "m", 0)),
                      ("equation", "pen", "shop", "base", ("shop", "bill", "m", None)),
                      ("equation", "pen", "shop", "base", ("shop", "book", "n", None)),
                      ("equation", "pen", "shop", "base", ("shop", "none", "m", None)),
                      ("equation", "pen", "shop", "base", ("base", "item", "m", None)),
                      ("equation", "item", "shop", "base", ("shop", "book", "m", None))):
            self.wrong(*begun, bind + (other, load))
        # The class above is loaded by an entry ahead of it.
        fresh = begun[:-1]
        self.assertEqual(begun[-1][0][0], "bind")
        self.wrong(*fresh, (equation,) + begun[-1] + bind + (load,))
        self.right(*fresh, begun[-1] + (equation,) + bind + (load,))

    def test_equations_of_nobody(self):
        one = self.overriding()
        place = ("shop", "book", "m", None)
        for name, loader, other, where in (("pen", "none", "base", place), ("pen", "shop", "none", place), (5, "shop", "base", place),
                                           (None, "shop", "base", place), ("pen", None, "base", place), ("pen", "shop", "base", None),
                                           ("pen", "shop", "base", ()), ("pen", "shop", "base", 5), ("pen", "shop", "base", "shop"),
                                           ("pen", "shop", "base", (("shop",), "book", "m", None)),
                                           ("pen", "shop", "base", ("shop", "book", "m", "0"))):
            self.wrong(*one.journal(), (("equation", name, loader, other, where),))

    def test_joined_loaders_are_bound_together(self):
        one = self.overriding()
        one.load("shop", "book")
        one.add_class("base", text("pen top"))
        begun = one.journal()
        one.bind("shop", "pen")
        both = one.journal()[-1]
        self.assertEqual([entry[1] for entry in both], ["shop", "base"])
        self.right(*begun, both)
        self.right(*begun, both[::-1])
        self.wrong(*begun, both[:1])
        self.wrong(*begun, both[1:])
        self.wrong(*begun, both[:1], both[1:], index=len(begun))

    def test_eager_for_the_sake_of_what_waits(self):
        more = BASE[0], (("class", "shop", "class item top\nfield f pen"),), (("class", "shop", "class book item"),), (
            ("class", "shop", "class pen top"),)
        pen, book = ("bind", "shop", "pen", ("shop", "pen")), ("bind", "shop", "book", ("shop", "book"))
        self.right(*more, (BIND, pen, book, ("load", ("shop", "item"), ("above", ("shop", "book"))),
                           ("load", ("shop", "pen"), ("eager", ("shop", "item"))), ("load", ("shop", "book"), ("asked",))))

    def test_places_of_nobody(self):
        for place in (("shop", "none", "m", 0), ("none", "item", "m", 0), ("shop", "item", "m", 0), (), None, 5, "shop", ("shop",),
                      (("shop",), "item", "m", 0)):
            self.wrong(*BASE, (BIND, ("load", ("shop", "item"), ("new", place))))

    def test_objects_that_claim_to_be_equal(self):
        for entry in (("bind", "shop", "item", AlwaysEqual()), ("bind", "shop", AlwaysEqual(), ("shop", "item")),
                      ("load", AlwaysEqual(), ("asked",)), ("load", ("shop", "item"), AlwaysEqual()), ("release", AlwaysEqual()),
                      ("load", ("shop", "item"), (AlwaysEqual(),)), ("unload", AlwaysEqual(), ())):
            self.assertEqual(first_wrong([*BASE, (BIND, entry)]), 2)
            self.assertEqual(first_wrong([*BASE, (entry,)]), 2)

    def test_an_assumption_that_does_not_hold(self):
        one = machine("loader shop", "class shop item top", "class shop pen top",
                      "class shop desk top;method m 2 item;new 1 pen;return 1;end")
        one.load("shop", "desk")
        one.check(("shop", "desk"), "m")
        load = ("bind", "shop", "pen", ("shop", "pen")), ("load", ("shop", "pen"), ("asked",))
        self.wrong(*one.journal(), load)
        self.wrong(*one.journal(), load + (BIND,))


class TestRandomJournals(unittest.TestCase):
    def test_accepted(self):
        for seed, journal in journals(range(3000, 3300)):
            self.assertIsNone(first_wrong(journal), seed)
            self.assertIsNone(slow_judge.first_wrong(journal), seed)

    def bent(self, rng, journal):
        """The journal, changed in one place."""
        journal = list(journal)
        index = rng.randrange(len(journal))
        change = list(journal[index])
        number = rng.randrange(len(change))
        kind = rng.choice(("left", "doubled", "exchanged", "moved", "item", "item", "item", "dropped", "swapped", "joined",
                           "parted"))
        if kind == "left":
            del change[number]
        elif kind == "doubled":
            change.insert(number, change[number])
        elif kind == "exchanged":
            change[number - 1], change[number] = change[number], change[number - 1]
        elif kind == "item":
            change[number] = self.bent_item(rng, change[number], journal)
        elif kind in ("dropped", "joined"):
            del journal[index]
            if kind == "joined" and journal:
                other = rng.randrange(len(journal))
                journal[other] += tuple(change)
            return journal
        elif kind == "parted" and len(change) > 1:
            journal[index:index + 1] = [tuple(change[:number]), tuple(change[number:])]
            return journal
        elif kind == "swapped":
            other = rng.randrange(len(journal))
            journal[index], journal[other] = journal[other], journal[index]
            return journal
        entry = change.pop(number) if kind == "moved" else None
        journal[index] = tuple(change)
        if kind == "moved":
            other = rng.randrange(len(journal))
            rest = list(journal[other])
            rest.insert(rng.randint(0, len(rest)), entry)
            journal[other] = tuple(rest)
        return journal

    def bent_item(self, rng, value, journal):
        """A value in which one item is another one, most often one that stands somewhere in the journal."""
        if type(value) is tuple and value and rng.random() < 0.85:
            number = rng.randrange(len(value))
            return value[:number] + (self.bent_item(rng, value[number], journal),) + value[number + 1:]
        items = [item for change in journal for entry in change for item in entry]
        items += [part for item in items if type(item) is tuple for part in item]
        same = [item for item in items if type(item) is type(value)]
        return rng.choice(same + [None, True, 0, "top", (), ["shop"]] if rng.random() < 0.3 else same or [None])

    def test_bent(self):
        rng = random.Random(11)
        refused = accepted = 0
        for seed, journal in journals(range(3000, 3200)):
            for _ in range(12):
                bent = self.bent(rng, journal)
                if not all(type(entry) is tuple for change in bent for entry in change):
                    with self.assertRaises(InvalidJournal):
                        first_wrong(bent)
                    continue
                found = first_wrong(bent)
                self.assertEqual(found, slow_judge.first_wrong(bent), (seed, bent))
                refused += found is not None
                accepted += found is None and bent != journal
        self.assertGreater(refused, 1000)
        self.assertGreater(accepted, 50)

    def test_beginnings(self):
        for seed, journal in journals(range(3000, 3030)):
            for many in range(len(journal)):
                self.assertIsNone(first_wrong(journal[:many]), seed)

    def test_arguments_stay(self):
        _, journal = next(journals([3001]))
        before = list(journal)
        first_wrong(journal)
        self.assertEqual(journal, before)


class TestOtherTables(unittest.TestCase):
    def test_right_tables_of_other_authors(self):
        one = machine("loader shop", "class shop item top", "class shop book item",
                      "class shop desk top;method m 2 item;new 1 book;return 1;end")
        one.load("shop", "desk")
        table = one.check(("shop", "desk"), "m")
        wide = (table[0], (("desk",), ("book", "item")))
        journal = one.journal()[:-1] + [(("check", ("shop", "desk"), "m", wide),)]
        self.assertIsNone(first_wrong(journal))
        wrong = (table[0], (("desk",), ("book", "top")))
        self.assertEqual(first_wrong(journal[:-1] + [(("check", ("shop", "desk"), "m", wrong),)]), len(journal) - 1)
        listed = (table[0], [("desk",), ("book",)])
        self.assertEqual(first_wrong(journal[:-1] + [(("check", ("shop", "desk"), "m", listed),)]), len(journal) - 1)

    def test_journals_of_eager_machines(self):
        one = eager("loader shop", "class shop item top;field f book", "class shop book item")
        one.load("shop", "item")
        self.assertIsNone(first_wrong(one.journal()))

    def test_a_new_machine(self):
        self.assertIsNone(first_wrong(Machine().journal()))


if __name__ == "__main__":
    unittest.main()
