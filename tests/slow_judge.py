"""A slow judge, written apart from the program by the words of the document."""

from lateclasses.classes import ClassText
from lateclasses.errors import ClassError
from lateclasses.formats import format_class, parse_class
from lateclasses.sets import is_right, least_table, needs
from lateclasses.tables import Tables
from tests.slow_machine import TOP, SlowMachine, bare, names_in_text


class Wrong(Exception):
    pass


def require(right):
    if not right:
        raise Wrong()


def is_plain(value):
    if type(value) is tuple:
        return all(is_plain(item) for item in value)
    return value is None or type(value) in (str, int)


class SlowJudge:
    def __init__(self):
        self.known = SlowMachine()
        self.tables = Tables()
        self.wants = []

    def first_wrong(self, journal):
        for index, change in enumerate(journal):
            try:
                require(len(change) > 0)
                for number, entry in enumerate(change):
                    require(is_plain(entry) and len(entry) > 0 and type(entry[0]) is str)
                    action = getattr(self, "take_" + entry[0], None)
                    require(action is not None)
                    self.later = change[number + 1:]
                    action(*entry[1:])
                self.require_closed()
            except (Wrong, ClassError, TypeError, ValueError):
                return index
        return None

    # What is closed

    def require_closed(self):
        known = self.known
        require(all(known.is_loaded(identity) for identity in self.wants))
        self.wants = []
        for name in {name for name, _, _, _ in known.equations}:
            for loader in known.loaders:
                found = {known.meaning(other, name) for other in known.joined(name, loader)}
                require(len(found) == 1)
        for (loader, one, other), _ in known.assumed:
            if known.is_live(loader, one):
                require(known.meaning(loader, other) in known.chain(known.meaning(loader, one)))
                known.decided.add((loader, one, other))
        for place, step in known.uses:
            for name, loader, other, _ in known.wants(place, step):
                require(other in known.joined(name, loader))
        for identity, _ in known.loaded:
            for name, other, _ in self.overrides(identity):
                require(other in known.joined(name, identity[0]))

    def overrides(self, identity):
        """What the methods of a class, the class above which is loaded, need: (name, other loader, method)."""
        known = self.known
        text = known.text(identity)
        above = known.meaning(identity[0], text.above)
        found = []
        if above is None or not known.is_loaded(above):
            return found
        for method in text.methods:
            holder, _ = known.first_declaring(above, "method", method.name)
            if holder is not None:
                found += [(name, holder[0], method.name) for name in bare([*method.params, method.result])]
        return found

    # Entries

    def take_loader(self, name, rest):
        require(name not in self.known.gone)
        self.tables.add_loader(name, rest=rest)
        self.known.add_loader(name, rest)

    def take_class(self, loader, text):
        parsed = parse_class(text)
        require(isinstance(parsed, ClassText) and format_class(parsed) == text)
        self.tables.add_class(loader, parsed)
        require((loader, parsed.name) not in self.known.fixed)
        self.known.add_class(loader, parsed)

    def take_ask(self, loader, name, other):
        self.tables.ask(loader, name, other)
        require((loader, name) not in self.known.fixed)
        self.known.ask(loader, name, other)

    def take_release(self, loader):
        require(loader in self.known.loaders and loader not in self.known.released)
        self.known.released.add(loader)

    def take_unload(self, names, equations):
        known = self.known
        self.require_closed()
        require(type(names) is tuple and len(names) > 0)
        require(list(names) == [name for name in known.loaders if name in names])
        require(all(name in known.released for name in names))
        for loader in known.loaders:
            require(loader in names or not known.needed_by(loader) & set(names))
        # Let the slow machine remove just these.
        released, known.released = known.released - set(names), set(names)
        known.unload()
        known.released = released
        require(known.journal[-1] == (("unload", names, equations),))
        self.tables = Tables()
        for name in known.loaders:
            self.tables.add_loader(name, rest=known.rests[name])
            for text in known.texts[name].values():
                self.tables.add_class(name, text)
            for word, other in known.asks[name].items():
                self.tables.ask(name, word, other)

    def take_bind(self, loader, name, identity):
        known = self.known
        require(loader in known.loaders and name != "top" and known.meaning(loader, name) is None)
        require(type(name) is str)
        for at in known.joined(name, loader):
            found = known.follow(at, name)[1]
            if found is not None:
                break
        require(found is not None and found == identity)
        known.fixed |= {(at, name) for at in known.follow(loader, name)[0]}
        known.bound[(loader, name)] = identity

    def take_equation(self, name, loader, other, place):
        known = self.known
        require(loader in known.loaders and other in known.loaders and other not in known.joined(name, loader))
        require(type(place) is tuple and len(place) == 4)
        wanted = [equation for at, step in known.uses if at == place for equation in known.wants(at, step)]
        if (name, loader, other, place) not in wanted:
            identity = place[:2]
            require(place[3] is None and place[0] == loader and place[1] in known.texts[loader])
            require((name, other, place[2]) in self.overrides(identity))
            self.wants.append(identity)
        known.equations.append((name, loader, other, place))

    def take_load(self, identity, reason):
        known = self.known
        require(type(identity) is tuple and len(identity) == 2 and identity[0] in known.loaders)
        loader, name = identity
        require(not known.is_loaded(identity) and known.meaning(loader, name) == identity)
        text = known.text(identity) if name in known.texts[loader] else require(False)
        require(known.is_live(loader, text.above))
        require(all(known.meaning(loader, mark) is not None for mark in text.marks))
        higher = [known.text(one) for one in known.chain(known.meaning(loader, text.above)) if one != TOP]
        for one in higher:
            require(not {word for word, _ in text.fields} & {word for word, _ in one.fields})
            for method in text.methods:
                other = one.method(method.name)
                require(other is None or (other.params, other.result) == (method.params, method.result))
        require(type(reason) is tuple and len(reason) > 0 and reason[0] in ("asked", "run", "above", "new", "eager"))
        getattr(self, "ground_" + reason[0])(identity, *reason[1:])
        known.loaded.append((identity, reason))

    def ground_asked(self, identity):
        pass

    def ground_run(self, identity):
        pass

    def ground_above(self, identity, other):
        known = self.known
        require(other[0] in known.loaders and other[1] in known.texts[other[0]] and len(other) == 2)
        require(any(entry[0] == "load" and entry[1] == other for entry in self.later if len(entry) > 1))
        require(not known.is_loaded(other))
        require(known.meaning(other[0], known.text(other).above) == identity)
        self.wants.append(other)

    def ground_new(self, identity, place):
        known = self.known
        loader, name, word, index = place
        require((place[:2], word) in [(one, other) for one, other, _ in known.checked])
        method = known.text(place[:2]).method(word)
        require(type(index) is int and 0 <= index < len(method.code) and method.code[index][0] == "new")
        require(least_table(name, method)[index] is not None)
        require(known.meaning(loader, method.code[index][2]) == identity)

    def ground_eager(self, identity, other):
        known = self.known
        require(other != TOP and known.is_loaded(other))
        require(identity in [known.meaning(other[0], name) for name in names_in_text(known.text(other))])
        reasons = dict(known.loaded)
        while other in reasons:
            other = reasons[other][1] if reasons[other][0] in ("above", "eager") else None
        require(other != identity)

    def take_check(self, identity, word, table):
        known = self.known
        require(identity != TOP and known.is_loaded(identity))
        method = known.text(identity).method(word)
        require(method is not None and known.table(identity, word) is None)
        require(is_right(identity[1], method, table))
        loader, name = identity
        for one, other, index in needs(name, method, table):
            known.assumed.append(((loader, one, other), [(loader, name, word, index)]))
        for index, step in enumerate(method.code):
            if table[index] is not None and step[0] in ("get", "put", "call", "ask"):
                known.uses.append(((loader, name, word, index), step))
        known.checked.append((identity, word, table))


def first_wrong(journal):
    return SlowJudge().first_wrong(journal)
