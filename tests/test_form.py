"""The form of the code: what of the rules for it can be seen without running it."""

import ast
import pathlib
import re
import unittest

PACKAGE = pathlib.Path(__file__).resolve().parent.parent / "lateclasses"

# The classes and functions that the document lists, by file, and the methods and properties of the classes.
INTERFACE = {
    "errors": {"ClassError": (), "InvalidName": (), "InvalidMethod": (), "InvalidClass": (), "InvalidTable": (),
               "NameTaken": (), "UnknownLoader": (), "UnknownClass": (), "NameFixed": (), "LimitExceeded": (),
               "Failing": (), "ParseError": (), "InvalidValues": (), "InvalidChoices": (), "InvalidLimit": (),
               "InvalidOperand": (), "InvalidJournal": (), "InvalidCommand": (), "UnknownName": (), "NotLoaded": ()},
    "words": {"is_name": None, "is_type": None, "element_of": None},
    "codes": {"is_instruction": None, "Method": ("name", "params", "result", "size", "code")},
    "classes": {"ClassText": ("name", "above", "marks", "fields", "methods", "field", "method")},
    "tables": {"Tables": ("names", "add_loader", "add_class", "ask", "way", "identity", "text", "copy", "__len__",
                          "__contains__", "__getitem__", "__eq__"),
               "Loader": ("name", "rest", "asks", "classes", "__contains__", "__getitem__", "__eq__")},
    "sets": {"least_table": None, "wrong_reason": None, "is_closed": None, "is_right": None, "needs": None},
    "formats": {"format_class": None, "parse_class": None},
    "running": {"Report": ("told", "ending", "steps", "loads", "parts", "__eq__")},
    "machine": {"Machine": ("add_loader", "add_class", "ask", "bind", "load", "check", "run", "watch", "keeps",
                            "forget", "release", "unload", "take_down", "bring_up", "loaders", "released", "down",
                            "tables_now", "list_loaded", "reason", "meaning", "list_equations", "list_assumptions",
                            "table", "__getitem__", "__contains__", "__len__", "journal", "calls", "copy", "trial",
                            "attempt", "__eq__"),
                "Trial": ("machine", "accept", "__enter__", "__exit__"),
                "Seen": ("chain", "marks", "__contains__", "__and__", "__len__", "__eq__")},
    "eager": {"EagerMachine": (), "compared": None, "Comparison": ("late", "eager", "saved", "agrees")},
    "unloading": {"needed_by": None, "removable": None},
    "judge": {"first_wrong": None},
    "journal": {"format_journal": None, "parse_journal": None, "recovered": None, "restored": None},
    "questions": {"why": None, "who": None, "joined": None, "open_assumptions": None, "what_fails": None,
                  "what_if": None},
    "reach": {"reach": None, "is_reach": None},
    "console": {"Console": ("execute",)},
    # What the interface does not list.
    "state": {}, "heap": {}, "loading": {}, "closing": {}, "playing": {},
}
BARRED = {"register", "mro", "elements", "open", "input", "law", "version_info", "with_traceback", "add_note"}
LIBRARY = {"heapq", "math", "itertools", "collections"}


def sources():
    return {path.stem: path.read_text(encoding="utf-8") for path in sorted(PACKAGE.glob("*.py"))}


def trees():
    return {name: ast.parse(text) for name, text in sources().items()}


def names_in(tree):
    """All names, attributes, parameters and definitions in a tree."""
    for node in ast.walk(tree):
        for field in ("id", "attr", "arg", "name"):
            if isinstance(getattr(node, field, None), str):
                yield getattr(node, field)


class TestFiles(unittest.TestCase):
    def test_the_interface_of_each_file_is_listed(self):
        self.assertEqual(set(INTERFACE) | {"__init__"}, set(sources()))

    def test_only_plain_files(self):
        for path in PACKAGE.iterdir():
            if path.name != "__pycache__":
                self.assertRegex(path.name, r"^(__init__|__main__|[a-z][a-z0-9_]*)\.py$")

    def test_lengths(self):
        for name, text in sources().items():
            lines = text.split("\n")
            self.assertLessEqual(len(lines), 400, name)
            self.assertLessEqual(max(map(len, lines)), 120, name)

    def test_characters(self):
        for name, text in sources().items():
            self.assertRegex(text, r"\A[ -~\n]*\Z", name)

    def test_lengths_of_functions(self):
        for name, tree in trees().items():
            for node in ast.walk(tree):
                if isinstance(node, ast.FunctionDef):
                    self.assertLessEqual(node.end_lineno - node.lineno + 1, 40, (name, node.name))


class TestModules(unittest.TestCase):
    def test_what_stands_at_module_level(self):
        allowed = (ast.ImportFrom, ast.FunctionDef, ast.ClassDef, ast.Assign)
        for name, tree in trees().items():
            self.assertTrue(ast.get_docstring(tree), name)
            for node in tree.body[1:]:
                if not (name == "__main__" and isinstance(node, (ast.Import, ast.If))):
                    self.assertIsInstance(node, allowed, name)

    def test_imports(self):
        stems = set(sources())
        for name, tree in trees().items():
            for node in ast.walk(tree):
                if isinstance(node, ast.Import):
                    self.assertEqual((name, [alias.name for alias in node.names]), ("__main__", ["sys"]))
                elif isinstance(node, ast.ImportFrom) and node.module not in LIBRARY | {"__future__"}:
                    package, _, stem = node.module.partition(".")
                    self.assertEqual((package, node.level), ("lateclasses", 0), name)
                    self.assertIn(stem, stems, name)

    def test_each_import_names_the_file_that_defines_it(self):
        defined = {name: {node.name for node in tree.body if isinstance(node, (ast.FunctionDef, ast.ClassDef))}
                   | {node.targets[0].id for node in tree.body if isinstance(node, ast.Assign)}
                   for name, tree in trees().items()}
        for name, tree in trees().items():
            for node in tree.body:
                if isinstance(node, ast.ImportFrom) and node.module.startswith("lateclasses."):
                    for alias in node.names:
                        self.assertIn(alias.name, defined[node.module.partition(".")[2]], name)

    def test_barred_names(self):
        for name, tree in trees().items():
            self.assertFalse(BARRED & set(names_in(tree)), name)

    def test_locals_have_no_names_of_classes_and_imports(self):
        for name, tree in trees().items():
            taken = {alias.asname or alias.name for node in tree.body if isinstance(node, ast.ImportFrom)
                     for alias in node.names} | {node.name for node in classes_in(tree)}
            for node in ast.walk(tree):
                if isinstance(node, ast.FunctionDef):
                    held = {part.arg for part in ast.walk(node) if isinstance(part, ast.arg)}
                    held |= {part.id for part in ast.walk(node)
                             if isinstance(part, ast.Name) and isinstance(part.ctx, ast.Store)}
                    self.assertFalse(held & taken, (name, node.name))

    def test_stars_and_texts_in_braces(self):
        for name, tree in trees().items():
            for node in ast.walk(tree):
                if isinstance(node, ast.Starred):
                    self.assertIsInstance(node.value, ast.Name, name)
                if isinstance(node, ast.FormattedValue):
                    self.assertFalse([part for part in ast.walk(node.value) if isinstance(part, ast.JoinedStr)], name)

    def test_words_about_types(self):
        for name, text in sources().items():
            self.assertIsNone(re.search(r"\(type\)|Meta|metaclass=|_wall", text), name)


def classes_in(tree):
    return [node for node in tree.body if isinstance(node, ast.ClassDef)]


def methods_of(node):
    return {part.name: part for part in node.body if isinstance(part, ast.FunctionDef)}


def is_property(method):
    return [each.id for each in method.decorator_list] == ["property"]


class TestClasses(unittest.TestCase):
    def test_special_methods(self):
        allowed = {"__init__", "__eq__", "__len__", "__contains__", "__getitem__", "__iter__", "__and__", "__enter__",
                   "__exit__"}
        for tree in trees().values():
            for node in classes_in(tree):
                special = {name for name in methods_of(node) if name.startswith("__")}
                self.assertLessEqual(special, allowed, node.name)

    def test_what_can_be_indexed_refuses_to_be_iterated_over(self):
        for tree in trees().values():
            for node in classes_in(tree):
                methods = methods_of(node)
                self.assertEqual("__getitem__" in methods, "__iter__" in methods, node.name)
                for statement in methods["__iter__"].body if "__iter__" in methods else ():
                    self.assertIsInstance(statement, ast.Raise)

    def test_names_of_properties(self):
        classes = [node for tree in trees().values() for node in classes_in(tree)]
        both = [(name, is_property(method)) for node in classes for name, method in methods_of(node).items()]
        properties = {name for name, yes in both if yes}
        self.assertFalse(properties & {name for name, yes in both if not yes})
        assigned = {node.attr for tree in trees().values() for node in ast.walk(tree)
                    if isinstance(node, ast.Attribute) and not isinstance(node.ctx, ast.Load)}
        self.assertFalse(properties & assigned)

    def test_no_name_is_a_method_and_an_attribute(self):
        methods = {name for tree in trees().values() for node in classes_in(tree) for name in methods_of(node)}
        assigned = {node.attr for tree in trees().values() for node in ast.walk(tree)
                    if isinstance(node, ast.Attribute) and not isinstance(node.ctx, ast.Load)}
        self.assertFalse(methods & assigned)

    def test_what_ends_a_block(self):
        """The method that ends a block only assigns plain things and asks for None."""
        for tree in trees().values():
            for node in classes_in(tree):
                for part in ast.walk(methods_of(node).get("__exit__", ast.Module([], []))):
                    self.assertNotIsInstance(part, (ast.Call, ast.BinOp, ast.Subscript, ast.Raise, ast.For, ast.While))
                    if isinstance(part, ast.Compare):
                        self.assertIsInstance(part.ops[0], (ast.Is, ast.IsNot))

    def test_no_generator_is_given_to_a_builtin(self):
        for name, tree in trees().items():
            for node in ast.walk(tree):
                self.assertNotIsInstance(node, (ast.GeneratorExp, ast.SetComp), name)


class TestInterface(unittest.TestCase):
    def test_each_name_is_defined_in_its_file(self):
        for name, listed in INTERFACE.items():
            found = {node.name: node for node in trees()[name].body
                     if isinstance(node, (ast.FunctionDef, ast.ClassDef))}
            for word, members in listed.items():
                kind = ast.FunctionDef if members is None else ast.ClassDef
                self.assertIsInstance(found.get(word), kind, word)
                if members:
                    own = {node.name for node in found[word].body if isinstance(node, ast.FunctionDef)}
                    self.assertLessEqual(set(members), own, word)


if __name__ == "__main__":
    unittest.main()
