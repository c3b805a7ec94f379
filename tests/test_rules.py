"""The package keeps to its small part of Python, as far as that can be seen by reading its files.

Not every rule is looked at here: just those that a slip breaks easily.
"""

import ast
import builtins
import pathlib
import unittest

from tests.test_errors import NAMES as ERRORS

PACKAGE = pathlib.Path(__file__).resolve().parent.parent / "ringsorways"

BUILTINS = """len range enumerate zip min max sum abs sorted reversed int str bool list tuple dict set isinstance ord
repr any all divmod Exception ValueError TypeError KeyError IndexError LookupError ZeroDivisionError
NotImplemented""".split()

LIBRARY = {"math": {"gcd", "lcm", "isqrt"}, "heapq": {"heappush", "heappop", "heapify"}}

NAMES = {
    "errors": "FenceError " + " ".join(ERRORS),
    "plane": "side meet between inside",
    "drawings": "Drawing with_fence without priced led_over",
    "rounds": "nexts rounds",
    "lands": "lands hanging sides area around",
    "spots": "land_of way_between",
    "parting": "ring_has ring_price way_price parting shows_parting",
    "cheapest": "cheapest shows_cheapest cost_without",
    "tightest": "tightest shows_tightest",
    "needed": "needed shows_needed",
    "hues": "two_hues shows_two_hues",
    "overlay": "overlay both",
    "led": "moments swept parted_when",
    "trees": "tree shows_tree",
    "field": "Field",
    "journals": "journal read_journal",
    "desk": "Desk",
}

METHODS = {
    "Field": "put take price lead mark strike elder apart cost undo redo trial keep tried copy",
    "Desk": "say",
}


def trees():
    """Each file's name with its text and its tree."""
    for path in sorted(PACKAGE.glob("*.py")):
        text = path.read_text(encoding="ascii")
        yield path.name, text, ast.parse(text)


def arguments_of(node):
    return node.args.posonlyargs + node.args.args + node.args.kwonlyargs


def stored_in(tree):
    """All names that something is assigned to."""
    return {node.id for node in ast.walk(tree) if isinstance(node, ast.Name) and isinstance(node.ctx, ast.Store)}


class TestRules(unittest.TestCase):
    def test_the_folder_holds_python_files_alone(self):
        others = [path.name for path in PACKAGE.iterdir() if path.suffix != ".py" and path.name != "__pycache__"]
        self.assertEqual(others, [])
        self.assertTrue((PACKAGE / "__init__.py").exists())

    def test_sizes(self):
        for name, text, tree in trees():
            lines = text.split("\n")
            self.assertLessEqual(len(lines), 399, name)
            self.assertLessEqual(max(len(line) for line in lines), 120, name)
            self.assertNotIn("\t", text, name)
            for node in ast.walk(tree):
                if isinstance(node, ast.FunctionDef):
                    self.assertLessEqual(node.end_lineno - node.lineno + 1, 40, (name, node.name))

    def test_imports(self):
        for name, _, tree in trees():
            for node in ast.walk(tree):
                self.assertNotIsInstance(node, ast.Import, name)
                if isinstance(node, ast.ImportFrom):
                    self.assertIn(node, tree.body, name)
                    self.assertTrue(all(alias.asname is None for alias in node.names), name)
                    if node.module in LIBRARY:
                        self.assertLessEqual({alias.name for alias in node.names}, LIBRARY[node.module], name)
                    else:
                        self.defined_there(name, node)

    def defined_there(self, name, node):
        folder, _, module = node.module.partition(".")
        self.assertEqual(folder, "ringsorways", name)
        tree = ast.parse((PACKAGE / (module + ".py")).read_text(encoding="ascii"))
        defined = {inner.name for inner in tree.body if isinstance(inner, (ast.FunctionDef, ast.ClassDef))}
        defined |= {inner.targets[0].id for inner in tree.body if isinstance(inner, ast.Assign)}
        self.assertLessEqual({alias.name for alias in node.names}, defined, name)

    def test_no_file_imports_itself_in_a_round(self):
        wanted = {}
        for name, _, tree in trees():
            froms = [node.module for node in tree.body if isinstance(node, ast.ImportFrom)]
            wanted[name[:-3]] = {module.split(".")[1] for module in froms if module.startswith("ringsorways.")}
        while wanted:
            free = [name for name in wanted if not wanted[name] & set(wanted)]
            self.assertTrue(free, wanted)
            wanted = {name: needs for name, needs in wanted.items() if name not in free}

    def test_what_the_interface_lists_is_defined_in_its_file(self):
        for module, names in NAMES.items():
            tree = ast.parse((PACKAGE / (module + ".py")).read_text(encoding="ascii"))
            defined = {node.name for node in tree.body if isinstance(node, (ast.FunctionDef, ast.ClassDef))}
            self.assertLessEqual(set(names.split()), defined, module)

    def test_what_the_interface_lists_for_a_class_is_defined_in_its_body(self):
        for _, _, tree in trees():
            for node in ast.walk(tree):
                if isinstance(node, ast.ClassDef) and node.name in METHODS:
                    defined = {inner.name for inner in node.body if isinstance(inner, ast.FunctionDef)}
                    self.assertLessEqual(set(METHODS[node.name].split()), defined, node.name)

    def test_a_block_is_left_by_plain_assignments(self):
        for name, _, tree in trees():
            for node in ast.walk(tree):
                if isinstance(node, ast.FunctionDef) and node.name == "__exit__":
                    for inner in ast.walk(ast.Module(node.body, [])):
                        self.assertNotIsInstance(inner, (ast.Call, ast.Subscript, ast.Raise, ast.For, ast.While), name)
                        if isinstance(inner, ast.Return):
                            self.assertIsNone(inner.value, name)

    def test_no_name_is_a_method_and_an_attribute(self):
        methods, attributes = set(), set()
        for _, _, tree in trees():
            for node in ast.walk(tree):
                if isinstance(node, ast.ClassDef):
                    methods |= {inner.name for inner in node.body if isinstance(inner, ast.FunctionDef)}
                if isinstance(node, ast.Attribute) and isinstance(node.ctx, ast.Store):
                    attributes.add(node.attr)
        self.assertEqual(methods & attributes, set())

    def test_no_barred_syntax(self):
        barred = (ast.AsyncFunctionDef, ast.Await, ast.Global, ast.Yield, ast.YieldFrom, ast.GeneratorExp, ast.Div)
        for name, _, tree in trees():
            for node in ast.walk(tree):
                self.assertNotIsInstance(node, barred, name)
                if isinstance(node, ast.Constant):
                    self.assertNotIsInstance(node.value, (float, complex), name)
                if isinstance(node, (ast.FunctionDef, ast.ClassDef)):
                    self.assertEqual(node.decorator_list, [], name)
                if isinstance(node, ast.ExceptHandler):
                    self.assertIsNotNone(node.type, name)

    def test_builtins(self):
        # Examples that were run ahead of this one have left "_" among the builtins.
        everything = set(dir(builtins)) - {"_"}
        for name, _, tree in trees():
            own = stored_in(tree)
            for node in ast.walk(tree):
                if isinstance(node, (ast.FunctionDef, ast.ClassDef)):
                    own.add(node.name)
                if isinstance(node, (ast.FunctionDef, ast.Lambda)):
                    own |= {argument.arg for argument in arguments_of(node)}
            self.assertEqual(own & everything, set(), name)
            used = {node.id for node in ast.walk(tree) if isinstance(node, ast.Name)} & everything
            self.assertLessEqual(used, set(BUILTINS), name)

    def test_no_name_of_an_import_is_used_for_something_else(self):
        for name, _, tree in trees():
            taken = [alias.name for node in tree.body if isinstance(node, ast.ImportFrom) for alias in node.names]
            bound = [node.name for node in tree.body if isinstance(node, (ast.FunctionDef, ast.ClassDef))]
            bound += [node.targets[0].id for node in tree.body if isinstance(node, ast.Assign)]
            self.assertEqual(len(taken + bound), len(set(taken + bound)), name)
            classes = {node.name for node in tree.body if isinstance(node, ast.ClassDef)}
            for node in ast.walk(tree):
                if isinstance(node, (ast.FunctionDef, ast.Lambda)):
                    names = stored_in(node) | {argument.arg for argument in arguments_of(node)}
                    self.assertEqual(names & (set(taken) | classes), set(), name)

    def test_tables_are_only_read_where_they_stand(self):
        for name, _, tree in trees():
            tables = {node.targets[0].id for node in tree.body
                      if isinstance(node, ast.Assign) and isinstance(node.value, (ast.Dict, ast.List))}
            read = [node.value for node in ast.walk(tree) if isinstance(node, ast.Subscript)]
            read += [node.func.value for node in ast.walk(tree)
                     if isinstance(node, ast.Call) and isinstance(node.func, ast.Attribute) and node.func.attr == "get"]
            for node in ast.walk(tree):
                if isinstance(node, ast.Name) and node.id in tables and isinstance(node.ctx, ast.Load):
                    self.assertIn(node, read, (name, node.id))
            for node in ast.walk(tree):
                if isinstance(node, ast.ImportFrom) and node.module.startswith("ringsorways."):
                    taken = {alias.name for alias in node.names if alias.name.isupper()}
                    for other in taken:
                        self.assertIsInstance(self.value_of(node.module.split(".")[1], other), ast.Constant)

    def value_of(self, module, name):
        tree = ast.parse((PACKAGE / (module + ".py")).read_text(encoding="ascii"))
        return next(node.value for node in tree.body if isinstance(node, ast.Assign) and node.targets[0].id == name)

    def test_modules_hold_no_code_that_runs(self):
        for name, _, tree in trees():
            for node in tree.body:
                plain = isinstance(node, ast.Expr) and isinstance(node.value, ast.Constant)
                defined = isinstance(node, (ast.ImportFrom, ast.FunctionDef, ast.ClassDef, ast.Assign))
                self.assertTrue(plain or defined, (name, node.lineno))


if __name__ == "__main__":
    unittest.main()
