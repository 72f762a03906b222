import itertools
import random
import unittest

from lateclasses.classes import ClassText
from lateclasses.codes import Method
from lateclasses.errors import (ClassError, InvalidClass, InvalidName, LimitExceeded, NameTaken, UnknownClass,
                                UnknownLoader)
from lateclasses.tables import Loader, Tables
from tests.samples import GOOD_NAMES, AlwaysEqual, Parts, no_names

WORDS = ("top", "item", "book", "pen", "desk", "x")
LOADERS = ("base", "shop", "top", "lab", "a", "b", "c", "d", "e", "f")


def no_classes():
    """Objects that are no class texts, some of them much like one."""
    posed = Parts(name="item", above="top", marks=(), fields=(), methods=())
    return no_names() + ["item", "class item top", Method("n", (), "top", 1, [("return", 0)]), ClassText, posed, Tables()]


def filled():
    """Three loaders with a rest, asks and texts."""
    tables = Tables()
    tables.add_loader("base")
    tables.add_loader("lib", rest="base")
    tables.add_loader("shop", rest="lib")
    tables.add_class("base", ClassText("item"))
    tables.add_class("lib", ClassText("book", above="item"))
    tables.add_class("shop", ClassText("desk"))
    tables.ask("shop", "book", "base")
    tables.ask("lib", "pen", "base")
    return tables


class Model:
    """What the document says of tables, as plainly as it can be written."""

    def __init__(self):
        self.order = []
        self.rests = {}
        self.asks = {}
        self.texts = {}

    def way(self, loader, name):
        if name in [text.name for text in self.texts[loader]]:
            return (loader,)
        asked = dict(self.asks[loader]).get(name, self.rests[loader])
        further = self.way(asked, name) if asked is not None else ()
        return (loader, *further) if further else ()

    def identity(self, loader, name):
        if name == "top":
            return ("", "top")
        way = self.way(loader, name)
        return (way[-1], name) if way else None

    def taken(self, loader, name):
        return name in [text.name for text in self.texts[loader]] + [word for word, _ in self.asks[loader]]

    def add_loader(self, name, rest):
        if name in self.order:
            return NameTaken(name)
        if rest is not None and rest not in self.order:
            return UnknownLoader(rest)
        if len(self.order) == 8:
            return LimitExceeded(8)
        self.order.append(name)
        self.rests[name], self.asks[name], self.texts[name] = rest, [], []
        return None

    def add_class(self, loader, text):
        if loader not in self.order:
            return UnknownLoader(loader)
        if self.taken(loader, text.name):
            return NameTaken(text.name)
        self.texts[loader].append(text)
        return None

    def ask(self, loader, name, other):
        if loader not in self.order:
            return UnknownLoader(loader)
        if name == "top":
            return InvalidName(name)
        if other not in self.order[:self.order.index(loader)]:
            return UnknownLoader(other)
        if self.taken(loader, name):
            return NameTaken(name)
        self.asks[loader].append((name, other))
        return None


class Case(unittest.TestCase):
    def check_raises(self, error, parts, call, *args, **more):
        """The call raises exactly this error, which stores exactly these objects."""
        with self.assertRaises(ClassError) as caught:
            call(*args, **more)
        self.assertIs(type(caught.exception), error)
        for name, part in parts.items():
            self.assertIs(getattr(caught.exception, name), part)

    def check_loader(self, tables, model, name):
        shown = tables[name]
        self.assertIsInstance(shown, Loader)
        self.assertEqual(shown.name, name)
        self.assertEqual(shown.rest, model.rests[name])
        self.assertEqual(list(shown.asks.items()), model.asks[name])
        self.assertEqual(shown.classes, tuple(text.name for text in model.texts[name]))
        for word in WORDS:
            identity = model.identity(name, word)
            self.assertEqual(tables.way(name, word), model.way(name, word))
            self.assertEqual(tables.identity(name, word), identity)
            self.assertIs(word in shown, identity is not None)
            if identity is not None:
                self.assertEqual(shown[word], identity)
            else:
                self.check_raises(UnknownClass, {"loader": shown.name, "word": word}, lambda: shown[word])
            own = [text for text in model.texts[name] if text.name == word]
            if own:
                self.assertEqual(tables.text(name, word), own[0])
            else:
                self.check_raises(UnknownClass, {"loader": name, "word": word}, tables.text, name, word)

    def check_tables(self, tables, model):
        self.assertEqual(tables.names, tuple(model.order))
        self.assertEqual(len(tables), len(model.order))
        for name in LOADERS:
            self.assertIs(name in tables, name in model.order)
        for name in model.order:
            self.check_loader(tables, model, name)


class TestGrowing(Case):
    def step(self, chance):
        """A call, mostly one that is possible: the name of the method, its arguments by position, and others."""
        loader, other = chance.choice(LOADERS), chance.choice(LOADERS)
        kind = chance.randrange(4)
        if kind == 0:
            return ("add_loader", (loader,), {"rest": chance.choice((None, other, other, other))})
        if kind == 1:
            return ("ask", (loader, chance.choice(WORDS), other), {})
        name, above = chance.choice(WORDS[1:]), chance.choice(WORDS)
        return ("add_class", (loader, ClassText(name, above=above)), {})

    def test_step_by_step(self):
        for seed in range(40):
            chance = random.Random(seed)
            tables, model = Tables(), Model()
            self.check_tables(tables, model)
            for _ in range(60):
                word, args, more = self.step(chance)
                error = getattr(model, word)(*args, *more.values())
                before = tables.copy()
                if error is None:
                    self.assertIsNone(getattr(tables, word)(*args, **more))
                    self.assertFalse(before == tables)
                else:
                    self.check_raises(type(error), vars(error), getattr(tables, word), *args, **more)
                    self.assertTrue(before == tables)
                self.check_tables(tables, model)

    def test_all_kinds_of_steps_come_up(self):
        found = set()
        for seed in range(40):
            chance, model = random.Random(seed), Model()
            for _ in range(60):
                word, args, more = self.step(chance)
                found.add((word, type(getattr(model, word)(*args, *more.values()))))
        for word, *errors in (("add_loader", type(None), NameTaken, UnknownLoader, LimitExceeded),
                              ("add_class", type(None), NameTaken, UnknownLoader),
                              ("ask", type(None), NameTaken, UnknownLoader, InvalidName)):
            self.assertLessEqual({(word, error) for error in errors}, found)

    def test_a_loader_is_shown_as_it_is_at_each_moment(self):
        tables = Tables()
        tables.add_loader("base")
        tables.add_loader("shop", rest="base")
        shown = tables["shop"]
        self.assertEqual((shown.classes, shown.asks, "item" in shown), ((), {}, False))
        tables.add_class("base", ClassText("item"))
        self.assertEqual(shown["item"], ("base", "item"))
        tables.ask("shop", "book", "base")
        tables.add_class("shop", ClassText("item"))
        self.assertEqual((shown["item"], shown.classes, shown.asks), (("shop", "item"), ("item",), {"book": "base"}))

    def test_ways(self):
        tables = filled()
        self.assertEqual(tables.way("shop", "desk"), ("shop",))
        self.assertEqual(tables.way("shop", "item"), ("shop", "lib", "base"))
        self.assertEqual(tables.way("lib", "book"), ("lib",))
        # A loader that asks another one for a name does not ask its rest for it.
        self.assertEqual((tables.way("shop", "book"), tables.identity("shop", "book")), ((), None))
        self.assertEqual((tables.way("base", "book"), tables.way("lib", "pen")), ((), ()))
        tables.add_class("base", ClassText("book"))
        self.assertEqual(tables.way("shop", "book"), ("shop", "base"))
        self.assertEqual((tables.way("shop", "top"), tables.identity("shop", "top")), ((), ("", "top")))

    def test_the_class_top(self):
        tables = filled()
        for name in tables.names:
            self.assertEqual((tables.way(name, "top"), tables.identity(name, "top")), ((), ("", "top")))
            self.assertTrue("top" in tables[name])
            self.assertEqual(tables[name]["top"], ("", "top"))
            self.assertNotIn("top", tables[name].classes)
            self.check_raises(UnknownClass, {"loader": name, "word": "top"}, tables.text, name, "top")

    def test_limits(self):
        self.assertEqual((Tables.MOST, Tables.CLASSES), (8, 40))
        self.assertEqual((Tables().MOST, Tables().CLASSES), (8, 40))
        tables = Tables()
        names = ["".join(letters) for letters in itertools.product("abcdefg", repeat=2)]
        for at, name in enumerate(names[:8]):
            self.assertEqual(len(tables), at)
            tables.add_loader(name)
        self.check_raises(LimitExceeded, {"limit": 8}, tables.add_loader, "ninth")
        self.assertEqual(tables.names, tuple(names[:8]))
        for name in names[:40]:
            tables.add_class("aa", ClassText(name))
        self.check_raises(LimitExceeded, {"limit": 40}, tables.add_class, "aa", ClassText("more"))
        self.assertEqual(tables["aa"].classes, tuple(names[:40]))
        # Texts of other loaders, and asks, do not count.
        tables.add_class("ab", ClassText("more"))
        for name in names[:40]:
            tables.ask("ac", name, "aa")
        tables.add_class("ac", ClassText("more"))
        self.assertEqual((tables["ac"].classes, len(tables["ac"].asks)), (("more",), 40))


class TestErrors(Case):
    def refused(self, error, parts, word, *args, **more):
        tables = filled()
        self.check_raises(error, parts, getattr(tables, word), *args, **more)
        self.assertTrue(tables == filled())
        self.assertEqual([tables[name].classes for name in tables.names], [("item",), ("book",), ("desk",)])

    def test_add_loader(self):
        for wrong in no_names():
            self.refused(InvalidName, {"given": wrong}, "add_loader", wrong)
            self.refused(InvalidName, {"given": wrong}, "add_loader", wrong, rest=wrong)
            if wrong is not None:
                self.refused(UnknownLoader, {"given": wrong}, "add_loader", "new", rest=wrong)
                self.refused(NameTaken, {"given": "lib"}, "add_loader", "lib", rest=wrong)
        for name in GOOD_NAMES:
            self.refused(UnknownLoader, {"given": name}, "add_loader", "new", rest=name)
            self.refused(UnknownLoader, {"given": name}, "add_loader", name, rest=name)
        self.refused(NameTaken, {"given": "base"}, "add_loader", "base")
        self.refused(NameTaken, {"given": "base"}, "add_loader", "base", rest="base")

    def test_add_loader_when_there_are_too_many(self):
        tables = Tables()
        for name in "abcdefgh":
            tables.add_loader(name)
        self.check_raises(InvalidName, {"given": "A"}, tables.add_loader, "A", rest="z")
        self.check_raises(NameTaken, {"given": "a"}, tables.add_loader, "a", rest="z")
        self.check_raises(UnknownLoader, {"given": "z"}, tables.add_loader, "z", rest="z")
        self.check_raises(LimitExceeded, {"limit": 8}, tables.add_loader, "z", rest="a")
        self.check_raises(LimitExceeded, {"limit": 8}, tables.add_loader, "z", rest=None)

    def test_the_loader_comes_first(self):
        for wrong in no_names() + ["other", "item"]:
            self.refused(UnknownLoader, {"given": wrong}, "add_class", wrong, ClassText("new"))
            self.refused(UnknownLoader, {"given": wrong}, "add_class", wrong, None)
            self.refused(UnknownLoader, {"given": wrong}, "ask", wrong, "new", "base")
            self.refused(UnknownLoader, {"given": wrong}, "ask", wrong, None, wrong)
            for word in ("way", "identity", "text"):
                self.refused(UnknownLoader, {"given": wrong}, word, wrong, "item")
                self.refused(UnknownLoader, {"given": wrong}, word, wrong, None)
            tables = filled()
            self.check_raises(UnknownLoader, {"given": wrong}, lambda: tables[wrong])
            self.assertIs(wrong in tables, False)

    def test_add_class(self):
        for wrong in no_classes():
            self.refused(InvalidClass, {"given": wrong}, "add_class", "lib", wrong)
        self.refused(NameTaken, {"given": "book"}, "add_class", "lib", ClassText("book"))
        self.refused(NameTaken, {"given": "book"}, "add_class", "lib", ClassText("book", above="item"))
        self.refused(NameTaken, {"given": "pen"}, "add_class", "lib", ClassText("pen"))

    def test_add_class_when_there_are_too_many(self):
        tables = filled()
        for at in range(39):
            tables.add_class("lib", ClassText("x" + chr(97 + at // 6) + chr(97 + at % 6)))
        self.check_raises(InvalidClass, {"given": None}, tables.add_class, "lib", None)
        self.check_raises(NameTaken, {"given": "pen"}, tables.add_class, "lib", ClassText("pen"))
        self.check_raises(NameTaken, {"given": "xaa"}, tables.add_class, "lib", ClassText("xaa"))
        self.check_raises(LimitExceeded, {"limit": 40}, tables.add_class, "lib", ClassText("new"))

    def test_ask(self):
        for wrong in no_names() + ["top"]:
            self.refused(InvalidName, {"given": wrong}, "ask", "shop", wrong, "base")
            self.refused(InvalidName, {"given": wrong}, "ask", "shop", wrong, wrong)
        for wrong in no_names() + ["other", "top", "item", "shop"]:
            self.refused(UnknownLoader, {"given": wrong}, "ask", "shop", "new", wrong)
            self.refused(UnknownLoader, {"given": wrong}, "ask", "shop", "desk", wrong)
        for later in ("lib", "shop"):
            self.refused(UnknownLoader, {"given": later}, "ask", "lib", "new", later)
            self.refused(UnknownLoader, {"given": later}, "ask", "base", "new", later)
        self.refused(UnknownLoader, {"given": "base"}, "ask", "base", "new", "base")
        for taken in ("desk", "book"):
            for other in ("base", "lib"):
                self.refused(NameTaken, {"given": taken}, "ask", "shop", taken, other)

    def test_a_loader_may_ask_what_its_rest_has(self):
        tables = filled()
        tables.ask("shop", "item", "lib")
        tables.ask("shop", "pen", "base")
        tables.add_class("base", ClassText("pen"))
        self.assertEqual((tables.way("shop", "item"), tables.way("shop", "pen")), (("shop", "lib", "base"), ("shop", "base")))

    def test_names_of_ways(self):
        for wrong in no_names():
            self.refused(InvalidName, {"given": wrong}, "way", "shop", wrong)
            self.refused(InvalidName, {"given": wrong}, "identity", "shop", wrong)
            self.refused(UnknownClass, {"loader": "shop", "word": wrong}, "text", "shop", wrong)
        for word in ("item", "book", "none", "top"):
            self.refused(UnknownClass, {"loader": "shop", "word": word}, "text", "shop", word)

    def test_names_of_a_loader(self):
        tables = filled()
        shown = tables["shop"]
        for wrong in no_names():
            self.check_raises(InvalidName, {"given": wrong}, lambda: shown[wrong])
            self.assertIs(wrong in shown, False)
        for word in ("book", "pen", "none"):
            self.check_raises(UnknownClass, {"loader": "shop", "word": word}, lambda: shown[word])
            self.assertIs(word in shown, False)
        self.assertEqual((shown["item"], "item" in shown), (("base", "item"), True))

    def test_nothing_is_iterated_over(self):
        for shown in (Tables(), filled(), filled()["base"]):
            with self.assertRaises(TypeError):
                list(shown)


class TestArguments(Case):
    def test_by_name(self):
        tables = Tables()
        tables.add_loader(name="base")
        tables.add_loader("shop", rest="base")
        tables.add_loader(rest=None, name="lone")
        tables.add_class(text=ClassText("item"), loader="base")
        tables.ask(other="base", name="book", loader="shop")
        self.assertEqual(tables.way(name="item", loader="shop"), ("shop", "base"))
        self.assertEqual(tables.identity(name="item", loader="shop"), ("base", "item"))
        self.assertEqual(tables.text(name="item", loader="base"), ClassText("item"))
        self.assertEqual((tables["shop"].asks, tables["lone"].rest), ({"book": "base"}, None))

    def test_rest_only_by_name(self):
        tables = filled()
        with self.assertRaises(TypeError):
            tables.add_loader("new", "base")
        self.assertTrue(tables == filled())

    def test_what_is_returned_is_new(self):
        tables = filled()
        asks = tables["shop"].asks
        asks["more"] = "base"
        del asks["book"]
        self.assertEqual(tables["shop"].asks, {"book": "base"})
        self.assertIsNot(tables["shop"].asks, tables["shop"].asks)
        self.assertTrue(tables == filled())


class TestEquality(Case):
    def test_copies(self):
        tables = filled()
        twin = tables.copy()
        self.assertIsInstance(twin, Tables)
        self.assertTrue(tables == twin and tables == filled() and not tables != twin)
        steps = (lambda one: one.add_loader("new", rest="base"), lambda one: one.add_class("base", ClassText("pen")),
                 lambda one: one.ask("shop", "box", "lib"))
        for step in steps:
            for original_changes in (True, False):
                tables = filled()
                twin = tables.copy()
                changed, other = (tables, twin) if original_changes else (twin, tables)
                step(changed)
                self.assertFalse(changed == other)
                self.assertTrue(changed != other and other == filled())
                step(other)
                self.assertTrue(changed == other)

    def test_ways_of_a_copy_are_its_own(self):
        tables = filled()
        twin = tables.copy()
        old, new = tables["shop"], twin["shop"]
        twin.add_class("base", ClassText("book"))
        self.assertEqual((tables.identity("shop", "book"), twin.identity("shop", "book")), (None, ("base", "book")))
        self.assertEqual(("book" in old, "book" in new), (False, True))
        tables.add_class("shop", ClassText("item"))
        self.assertEqual((old["item"], new["item"]), (("shop", "item"), ("base", "item")))

    def test_order_of_loaders(self):
        one, other = Tables(), Tables()
        for name in ("a", "b"):
            one.add_loader(name)
        for name in ("b", "a"):
            other.add_loader(name)
        self.assertFalse(one == other)
        self.assertTrue(one["a"] == other["a"] and one["b"] == other["b"])

    def test_order_of_texts_and_asks(self):
        one, other = filled(), filled()
        for tables, words in ((one, "xyz"), (other, "zyx")):
            for word in words:
                tables.add_class("lib", ClassText(word))
                tables.ask("shop", word, "lib")
        self.assertEqual((one["lib"].classes[1:], other["lib"].classes[1:]), (("x", "y", "z"), ("z", "y", "x")))
        self.assertTrue(one == other)

    def test_loaders(self):
        def made(name="shop", rest="base", text=ClassText("item"), asked="lib"):
            tables = Tables()
            tables.add_loader("base")
            tables.add_loader("lib", rest="base")
            tables.add_loader(name, rest=rest)
            tables.add_class(name, text)
            tables.ask(name, "book", asked)
            return tables[name]

        self.assertTrue(made() == made() and not made() != made())
        for other in (made(name="lab"), made(rest=None), made(rest="lib"), made(text=ClassText("item", above="x")),
                      made(text=ClassText("pen")), made(asked="base")):
            self.assertFalse(made() == other or other == made())
        # What other loaders of the tables have does not count.
        one, other = filled(), filled()
        one.add_class("base", ClassText("book"))
        self.assertTrue(one["shop"] == other["shop"])
        self.assertFalse(one["base"] == other["base"] or one == other)

    def test_other_objects(self):
        tables = filled()
        names = list(tables.names)
        for other in (None, 0, (), [], {}, "base", names, tuple(names), AlwaysEqual, object(), ClassText("item"),
                      Parts(names=tables.names, _loaders=dict.fromkeys(names))):
            self.assertFalse(tables == other or Tables() == other or tables["base"] == other)
        self.assertFalse(tables == tables["base"] or tables["base"] == tables)
        posed = Parts(name="base", rest=None, asks={}, classes=("item",), _name="base", _rest=None, _asks={},
                      _texts={"item": ClassText("item")})
        self.assertFalse(tables["base"] == posed)


if __name__ == "__main__":
    unittest.main()
