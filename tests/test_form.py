"""What of the language rules shows in the files themselves: sizes, signs, folders, names, calls."""

import ast
import builtins
import pathlib
import unittest

PACKAGE = pathlib.Path(__file__).resolve().parent.parent / "treerounds"
FILES = sorted(PACKAGE.rglob("*.py"))

CALLED = {"len", "range", "enumerate", "zip", "min", "max", "sum", "abs", "sorted", "reversed",
          "int", "str", "bool", "list", "tuple", "dict", "set", "isinstance", "any", "all",
          "divmod", "super"}
ERRORS = {"ValueError", "TypeError", "KeyError", "IndexError"}
METHODS = {"append", "clear", "copy", "count", "endswith", "extend", "find", "get", "index",
           "insert", "items", "join", "keys", "partition", "pop", "remove", "replace", "reverse",
           "setdefault", "split", "startswith", "strip", "update", "values"}
LIBRARY = {("heapq", "heappush"), ("heapq", "heappop"), ("math", "gcd"), ("math", "factorial"),
           ("itertools", "combinations")}
BARRED = {"mro", "elements", "open", "input", "law", "register", "type", "enum", "id", "format"}
BARRED_NODES = (ast.Import, ast.Global, ast.AsyncFunctionDef, ast.Await, ast.Div, ast.Pow,
                ast.Starred)


def trees_of_files():
    """Each file with its syntax tree."""
    return [(str(path), ast.parse(path.read_text())) for path in FILES]


def nodes_of(kind):
    """Each file with each node of a kind, or of several, in it."""
    for path, tree in trees_of_files():
        for node in ast.walk(tree):
            if isinstance(node, kind):
                yield path, node


def bound_names(tree):
    """All names that functions of a file bind: parameters, variables, caught errors."""
    names = {node.arg for node in ast.walk(tree) if isinstance(node, ast.arg)}
    for node in ast.walk(tree):
        if isinstance(node, ast.Name) and isinstance(node.ctx, ast.Store):
            names.add(node.id)
        if isinstance(node, ast.ExceptHandler) and node.name:
            names.add(node.name)
    return names


def imported_names(tree):
    """All names that a file imports."""
    return [alias.asname or alias.name for node in ast.walk(tree)
            if isinstance(node, ast.ImportFrom) for alias in node.names]


def defined_names(tree):
    """The functions and classes of a file."""
    return [node.name for node in tree.body if isinstance(node, (ast.FunctionDef, ast.ClassDef))]


def fixed_names(tree):
    """The names of a file that are given a plain value."""
    return [node.targets[0].id for node in tree.body if isinstance(node, ast.Assign)]


def methods_of(tree):
    """The methods of a file's own classes."""
    return {node.name for kind in tree.body if isinstance(kind, ast.ClassDef)
            for node in kind.body if isinstance(node, ast.FunctionDef)}


def parents_of(tree):
    """For each node, by its identity, the node that it stands in."""
    return {id(child): node for node in ast.walk(tree) for child in ast.iter_child_nodes(node)}


class Files(unittest.TestCase):
    def test_files_have_plain_signs_and_are_short(self):
        self.assertLessEqual(len(FILES), 100)
        for path in FILES:
            text = path.read_text(encoding="ascii")
            rows = text.split("\n")
            self.assertLessEqual(len(rows), 399, path)
            self.assertTrue(all(sign == "\n" or " " <= sign <= "~" for sign in text), path)
            self.assertTrue(all(len(row) <= 120 for row in rows), path)

    def test_each_folder_is_a_package(self):
        for path in FILES:
            self.assertTrue((path.parent / "__init__.py").is_file(), path)
            self.assertFalse((path.parent / path.stem).is_dir(), path)
            self.assertNotIn(path.stem, dir(builtins), path)

    def test_functions_are_short(self):
        for path, node in nodes_of(ast.FunctionDef):
            self.assertLessEqual(node.end_lineno - node.lineno + 1, 40, (path, node.name))
            self.assertEqual(node.decorator_list, [], (path, node.name))
            self.assertTrue(ast.get_docstring(node) or node.name == "__init__", (path, node.name))


class Imports(unittest.TestCase):
    def test_imports_name_the_file_that_defines_what_they_take(self):
        defined = {}
        for path, tree in trees_of_files():
            parts = pathlib.Path(path).relative_to(PACKAGE.parent).with_suffix("").parts
            defined[".".join(parts)] = defined_names(tree) + fixed_names(tree)
        for path, node in nodes_of(ast.ImportFrom):
            self.assertEqual(node.level, 0, path)
            for alias in node.names:
                self.assertIsNone(alias.asname, path)
                if (node.module, alias.name) not in LIBRARY:
                    self.assertIn(alias.name, defined[node.module], path)

    def test_what_is_imported_is_used(self):
        for path, tree in trees_of_files():
            read = {node.id for node in ast.walk(tree) if isinstance(node, ast.Name)}
            names = imported_names(tree)
            self.assertEqual(len(set(names)), len(names), path)
            self.assertLessEqual(set(names), read, path)

    def test_no_two_files_import_from_each_other(self):
        links = {}
        for path, tree in trees_of_files():
            parts = pathlib.Path(path).relative_to(PACKAGE.parent).with_suffix("").parts
            links[".".join(parts)] = [node.module for node in ast.walk(tree)
                                      if isinstance(node, ast.ImportFrom)]
        while links:
            free = [name for name in links if not any(other in links for other in links[name])]
            self.assertTrue(free, links)
            for name in free:
                del links[name]


class Names(unittest.TestCase):
    def test_names_mean_one_thing(self):
        for path, tree in trees_of_files():
            bound, imported, defined = bound_names(tree), imported_names(tree), defined_names(tree)
            self.assertFalse(bound & set(imported + defined), path)
            self.assertEqual(len(set(imported + defined)), len(imported + defined), path)
            for name in bound | set(imported) | set(defined):
                self.assertNotIn(name, dir(builtins), (path, name))
                self.assertNotIn(name, BARRED, (path, name))
                self.assertFalse(name.startswith("__"), (path, name))

    def test_own_methods_and_attributes_have_names_of_their_own(self):
        taken = {name for kind in (str, list, dict, set, tuple, int, bytes) for name in dir(kind)}
        for path, tree in trees_of_files():
            attributes = {node.attr for node in ast.walk(tree) if isinstance(node, ast.Attribute)
                          and isinstance(node.ctx, ast.Store)}
            methods = methods_of(tree) - {"__init__"}
            self.assertFalse(attributes & methods, path)
            for name in attributes | methods:
                self.assertNotIn(name, taken | BARRED | set(dir(builtins)), (path, name))

    def test_an_underscore_is_never_read(self):
        for path, node in nodes_of(ast.Name):
            self.assertFalse(node.id == "_" and isinstance(node.ctx, ast.Load), path)

    def test_no_percent_sign_in_a_string(self):
        for path, node in nodes_of(ast.Constant):
            self.assertFalse(isinstance(node.value, str) and "%" in node.value, path)


class Expressions(unittest.TestCase):
    def test_kinds(self):
        for path, node in nodes_of((ast.expr, ast.stmt, ast.operator, ast.cmpop)):
            self.assertNotIsInstance(node, BARRED_NODES, path)
            self.assertFalse(isinstance(node, ast.Constant) and isinstance(node.value, float), path)

    def test_is_stands_beside_none_alone(self):
        for path, node in nodes_of(ast.Compare):
            for sign, other in zip(node.ops, node.comparators):
                if isinstance(sign, (ast.Is, ast.IsNot)):
                    self.assertTrue(isinstance(other, ast.Constant) and other.value is None, path)

    def test_builtins_and_methods(self):
        for path, tree in trees_of_files():
            # A function out of a table is called by this name.
            own = set(imported_names(tree) + defined_names(tree) + ["answer"])
            methods = METHODS | methods_of(tree)
            for node in ast.walk(tree):
                if not isinstance(node, ast.Call):
                    continue
                if isinstance(node.func, ast.Name):
                    self.assertIn(node.func.id, own | CALLED, path)
                else:
                    self.assertIn(node.func.attr, methods, path)

    def test_builtins_are_called_and_not_kept(self):
        for path, tree in trees_of_files():
            parents = parents_of(tree)
            for node in ast.walk(tree):
                if isinstance(node, ast.Name) and node.id in dir(builtins):
                    parent = parents[id(node)]
                    called = isinstance(parent, ast.Call) and parent.func is node
                    asked = isinstance(parent, ast.Call) and parent.func.id == "isinstance"
                    base = isinstance(parent, ast.ClassDef) and node.id in ERRORS
                    self.assertTrue(called or asked or base, (path, node.id))

    def test_what_is_iterated_at_once(self):
        for path, tree in trees_of_files():
            parents = parents_of(tree)
            for node in ast.walk(tree):
                if not isinstance(node, ast.Call):
                    continue
                name = node.func.id if isinstance(node.func, ast.Name) else node.func.attr
                parent = parents[id(node)]
                if name in ("zip", "enumerate", "reversed", "range", "items", "keys", "values"):
                    good = (isinstance(parent, (ast.For, ast.comprehension))
                            or parent.func.id in ("list", "tuple", "sorted", "reversed"))
                    self.assertTrue(good, (path, name, node.lineno))

    def test_sets_stand_in_len_sorted_or_a_comparison(self):
        for path, tree in trees_of_files():
            parents = parents_of(tree)
            for node in ast.walk(tree):
                told = isinstance(node, ast.Call) and isinstance(node.func, ast.Name)
                if isinstance(node, (ast.Set, ast.SetComp)) or (told and node.func.id == "set"):
                    parent = parents[id(node)]
                    good = (isinstance(parent, ast.Compare)
                            or (isinstance(parent, ast.Call) and parent.func.id in ("len", "sorted")))
                    self.assertTrue(good, (path, node.lineno))

    def test_generators_stand_alone_in_a_call(self):
        for path, tree in trees_of_files():
            parents = parents_of(tree)
            for node in ast.walk(tree):
                if isinstance(node, ast.GeneratorExp):
                    parent = parents[id(node)]
                    self.assertIn(parent.func.id, ("all", "any", "sum", "tuple", "sorted"), path)
                    self.assertEqual(len(parent.args) + len(parent.keywords), 1, path)


if __name__ == "__main__":
    unittest.main()
