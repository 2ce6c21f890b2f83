"""What can be seen of the rules for the package's files, and that the interface is where it is listed."""

import ast
import builtins
import unittest
from pathlib import Path

import bothreed

FOLDER = Path(bothreed.__file__).parent

INTERFACE = {
    "patterns": {
        "need_letters": ["letters"], "is_pattern": ["letters", "thing"], "nodes": ["pattern"],
        "need_pattern": ["letters", "pattern"],
    },
    "leaving": {
        "empty": ["pattern"], "left": ["pattern", "sign"], "fits": ["letters", "pattern", "text"],
    },
    "machines": {
        "machine_of": ["letters", "pattern"], "room_of": ["letters", "machine", "room", "text"],
        "parting": ["letters", "machine", "room", "other"],
    },
    "telling": {"told_alike": ["letters", "one", "other"]},
    "texts": {"shown": ["pattern"], "read": ["letters", "text"]},
}

# L8, without what only __main__.py may use.
BUILTINS = set("""
len range enumerate zip min max sum abs sorted reversed int str bool bytes list tuple dict set frozenset
isinstance ord repr any all divmod pow ValueError TypeError KeyError IndexError LookupError
""".split())

# L25, as far as this package has a use for it.
METHODS = set("append bit_length extend index items join pop setdefault".split())

# L6, as far as this package has a use for it.
STATEMENTS = (
    ast.Assign, ast.AugAssign, ast.If, ast.While, ast.For, ast.Return, ast.Break, ast.Continue, ast.Pass,
    ast.Raise, ast.Expr, ast.FunctionDef, ast.ClassDef, ast.ImportFrom,
)


def sources():
    return {path.stem: path.read_text(encoding="utf-8") for path in sorted(FOLDER.glob("*.py"))}


def bound_names(tree):
    """All names that a file gives a meaning anywhere."""
    found = set()
    for node in ast.walk(tree):
        if isinstance(node, ast.Name) and isinstance(node.ctx, ast.Store):
            found.add(node.id)
        elif isinstance(node, (ast.FunctionDef, ast.ClassDef)):
            found.add(node.name)
        elif isinstance(node, ast.arg):
            found.add(node.arg)
        elif isinstance(node, ast.alias):
            found.add(node.name)
    return found


class Files(unittest.TestCase):
    def test_the_folder_holds_nothing_but_python_files(self):
        for path in FOLDER.rglob("*"):
            if "__pycache__" not in path.parts:
                self.assertEqual(path.suffix, ".py", path)

    def test_characters_and_sizes(self):
        for name, source in sources().items():
            lines = source.split("\n")
            self.assertLessEqual(len(lines), 399, name)
            for line in lines:
                self.assertLessEqual(len(line), 120, line)
                self.assertTrue(all(" " <= character <= "~" for character in line), line)
            for node in ast.walk(ast.parse(source)):
                if isinstance(node, ast.FunctionDef):
                    self.assertLessEqual(node.end_lineno - node.lineno + 1, 40, (name, node.name))

    def test_every_file_function_and_class_says_what_it_is(self):
        for name, source in sources().items():
            for node in ast.walk(ast.parse(source)):
                if isinstance(node, (ast.Module, ast.FunctionDef, ast.ClassDef)):
                    self.assertTrue(ast.get_docstring(node), (name, getattr(node, "name", "")))


class Words(unittest.TestCase):
    def test_imports_come_from_the_very_file_and_never_in_a_ring(self):
        imports = {}
        for name, source in sources().items():
            tree = ast.parse(source)
            imports[name] = []
            for node in ast.walk(tree):
                self.assertNotIsInstance(node, ast.Import)
                if isinstance(node, ast.ImportFrom):
                    self.assertIn(node, tree.body)
                    self.assertEqual(node.level, 0)
                    package, _, origin = node.module.partition(".")
                    self.assertEqual(package, "bothreed")
                    imports[name].append(origin)
                    defined = bound_names(ast.parse(sources()[origin]))
                    for alias in node.names:
                        self.assertIn(alias.name, defined)
        done = []
        while len(done) < len(imports):
            ready = [name for name in imports if name not in done and set(imports[name]) <= set(done)]
            self.assertTrue(ready, "files import from each other")
            done.extend(ready)

    def test_only_plain_statements(self):
        for name, source in sources().items():
            tree = ast.parse(source)
            for node in ast.walk(tree):
                if isinstance(node, ast.stmt):
                    self.assertIsInstance(node, STATEMENTS, (name, node.lineno))
                if isinstance(node, (ast.FunctionDef, ast.ClassDef)):
                    self.assertEqual(node.decorator_list, [])
                if isinstance(node, ast.Compare):
                    self.assertFalse(any(isinstance(sign, (ast.Is, ast.IsNot)) for sign in node.ops))
            for node in tree.body:
                self.assertNotIsInstance(node, (ast.If, ast.For, ast.While))

    def test_only_the_builtins_of_the_list(self):
        for name, source in sources().items():
            tree = ast.parse(source)
            bound = bound_names(tree)
            self.assertFalse(bound & set(dir(builtins)), name)
            for node in ast.walk(tree):
                if isinstance(node, ast.Name) and isinstance(node.ctx, ast.Load):
                    self.assertIn(node.id, bound | BUILTINS, (name, node.lineno))


class Classes(unittest.TestCase):
    def test_own_names_are_no_names_of_builtin_values(self):
        taken = {name for kind in (str, int, list, dict, set, tuple, bytes) for name in dir(kind)}
        for name, methods, attributes in classes():
            for own in methods | attributes:
                self.assertNotIn(own, (taken | set(dir(builtins))) - {"__init__"}, name)
            self.assertFalse(methods & attributes, name)

    def test_only_own_methods_and_those_of_the_list_are_called(self):
        own = {method for _, methods, _ in classes() for method in methods}
        for name, source in sources().items():
            for node in ast.walk(ast.parse(source)):
                if isinstance(node, ast.Call) and isinstance(node.func, ast.Attribute):
                    self.assertIn(node.func.attr, own | METHODS, (name, node.lineno))

    def test_each_attribute_is_set_when_the_object_is_created(self):
        for name, source in sources().items():
            for node in ast.walk(ast.parse(source)):
                if isinstance(node, ast.ClassDef) and node.bases == []:
                    first = node.body[1]
                    self.assertEqual(getattr(first, "name", None), "__init__", (name, node.name))
                    self.assertEqual(own_attributes(first), own_attributes(node), (name, node.name))


def classes():
    """Each class with the names of its methods and of its attributes."""
    found = []
    for source in sources().values():
        for node in ast.walk(ast.parse(source)):
            if isinstance(node, ast.ClassDef):
                methods = {part.name for part in node.body if isinstance(part, ast.FunctionDef)}
                found.append((node.name, methods, own_attributes(node)))
    return found


def own_attributes(tree):
    """The names of what is assigned to an object's own attributes."""
    return {node.attr for node in ast.walk(tree)
            if isinstance(node, ast.Attribute) and isinstance(node.ctx, ast.Store)}


class Interface(unittest.TestCase):
    def test_each_function_is_defined_in_its_file_with_its_arguments(self):
        for name, functions in INTERFACE.items():
            found = {}
            for node in ast.parse(sources()[name]).body:
                if isinstance(node, ast.FunctionDef):
                    found[node.name] = [argument.arg for argument in node.args.args]
            for function, arguments in functions.items():
                self.assertEqual(found.get(function), arguments, function)


if __name__ == "__main__":
    unittest.main()
