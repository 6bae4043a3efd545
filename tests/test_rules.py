"""Those rules of the language that can be read off the files: imports, sizes, characters, builtins."""

import ast
import builtins
import pathlib
import unittest

FOLDER = pathlib.Path(__file__).resolve().parent.parent / "anymarks"
FILES = sorted(FOLDER.glob("*.py"))
BUILTINS = {
    "len", "range", "enumerate", "zip", "min", "max", "sum", "abs", "sorted", "reversed", "int", "str",
    "bool", "list", "tuple", "dict", "set", "isinstance", "any", "all", "divmod", "type", "ValueError",
}
LIBRARY = {
    "heapq": {"heappush", "heappop"}, "itertools": {"product", "combinations", "permutations", "chain"},
    "math": {"gcd", "isqrt", "comb"}, "collections": {"deque", "defaultdict"},
}
ON_THE_SPOT = {"range", "zip", "enumerate", "reversed"}
TAKE_THEM = {"list", "tuple", "dict", "sorted", "sum", "any", "all", "enumerate", "zip", "min", "max", "len"}
LEFT_OUT = (
    ast.AsyncFunctionDef, ast.AsyncFor, ast.AsyncWith, ast.Await, ast.Import, ast.Global, ast.Div,
)


def tree_of(path):
    return ast.parse(path.read_text(encoding="utf-8"))


class TestRules(unittest.TestCase):
    def each_node(self, *kinds):
        for path in FILES:
            for node in ast.walk(tree_of(path)):
                if isinstance(node, kinds):
                    yield path.name, node

    def test_the_folder_holds_plain_files_alone(self):
        found = {path for path in FOLDER.iterdir() if path.name != "__pycache__"}
        self.assertEqual(found, set(FILES))
        for path in FILES:
            self.assertTrue(path.stem.replace("_", "a").isalnum())

    def test_sizes_and_characters(self):
        for path in FILES:
            lines = path.read_text(encoding="utf-8").split("\n")
            self.assertLess(len(lines), 400, path.name)
            for at, line in enumerate(lines, start=1):
                self.assertLessEqual(len(line), 120, f"{path.name}:{at}")
                self.assertTrue(all(" " <= sign <= "~" for sign in line), f"{path.name}:{at}")

    def test_functions_are_small(self):
        for name, node in self.each_node(ast.FunctionDef):
            self.assertLessEqual(node.end_lineno - node.lineno + 1, 40, f"{name}: {node.name}")
            self.assertEqual(node.decorator_list, [], f"{name}: {node.name}")

    def test_imports(self):
        for name, node in self.each_node(ast.ImportFrom):
            self.assertEqual(node.level, 0, name)
            for alias in node.names:
                self.assertIsNone(alias.asname, name)
                if node.module in LIBRARY:
                    self.assertIn(alias.name, LIBRARY[node.module], name)
                else:
                    self.defined(node.module, alias.name)

    def test_imports_are_used(self):
        for path in FILES:
            tree = tree_of(path)
            named = {node.id for node in ast.walk(tree) if isinstance(node, ast.Name)}
            for node in ast.walk(tree):
                if isinstance(node, ast.ImportFrom):
                    self.assertTrue({alias.name for alias in node.names} <= named, f"{path.name}:{node.lineno}")

    def defined(self, module, name):
        package, file = module.split(".")
        self.assertEqual(package, "anymarks")
        told = []
        for node in tree_of(FOLDER / f"{file}.py").body:
            if isinstance(node, (ast.FunctionDef, ast.ClassDef)):
                told.append(node.name)
            elif isinstance(node, ast.Assign):
                told.append(node.targets[0].id)
        self.assertEqual(told.count(name), 1, f"{module}: {name}")

    def test_no_two_files_import_from_each_other(self):
        imports = {path.stem: set() for path in FILES}
        for name, node in self.each_node(ast.ImportFrom):
            if node.module.startswith("anymarks."):
                imports[name[:-3]].add(node.module.split(".")[1])
        while imports:
            free = [file for file, others in imports.items() if not others & set(imports)]
            self.assertTrue(free, imports)
            for file in free:
                del imports[file]

    def test_what_is_left_out(self):
        for name, node in self.each_node(*LEFT_OUT):
            self.fail(f"{name}:{getattr(node, 'lineno', 0)} {type(node).__name__}")
        for name, node in self.each_node(ast.Constant):
            self.assertNotIn(type(node.value), (float, complex), name)

    def test_builtins(self):
        every = set(dir(builtins))
        for name, node in self.each_node(ast.Name):
            if node.id in every:
                self.assertIn(node.id, BUILTINS, f"{name}:{node.lineno}")
                self.assertIsInstance(node.ctx, ast.Load, f"{name}:{node.lineno}")
        for name, node in self.each_node(ast.FunctionDef, ast.ClassDef, ast.arg):
            told = node.arg if isinstance(node, ast.arg) else node.name
            self.assertNotIn(told, every, f"{name}:{node.lineno}")

    def test_what_is_gone_through_on_the_spot(self):
        for path in FILES:
            tree = tree_of(path)
            let = set()
            for node in ast.walk(tree):
                if isinstance(node, (ast.For, ast.comprehension)):
                    let.add(node.iter)
                elif isinstance(node, ast.Call) and getattr(node.func, "id", "") in TAKE_THEM | ON_THE_SPOT:
                    let.update(node.args)
                elif isinstance(node, ast.Compare):
                    let.update(node.comparators)
            for node in ast.walk(tree):
                named = isinstance(node, ast.Call) and getattr(node.func, "id", "") in ON_THE_SPOT
                asked = isinstance(node, ast.Call) and getattr(node.func, "attr", "") in ("items", "keys", "values")
                if named or asked:
                    self.assertIn(node, let, f"{path.name}:{node.lineno}")
                if isinstance(node, ast.GeneratorExp):
                    self.fail(f"{path.name}:{node.lineno}")

    def test_sets_are_not_kept(self):
        for path in FILES:
            tree = tree_of(path)
            let = set()
            for node in ast.walk(tree):
                if isinstance(node, ast.Call) and getattr(node.func, "id", "") in ("sorted", "len"):
                    let.update(node.args)
                elif isinstance(node, ast.Compare):
                    let.update(node.comparators)
            for node in ast.walk(tree):
                made = isinstance(node, ast.Call) and getattr(node.func, "id", "") in ("set", "frozenset")
                if made or isinstance(node, (ast.Set, ast.SetComp)):
                    self.assertIn(node, let, f"{path.name}:{node.lineno}")

    def test_modules_hold_definitions_alone(self):
        for path in FILES:
            for at, node in enumerate(tree_of(path).body):
                docstring = at == 0 and isinstance(node, ast.Expr)
                kinds = (ast.FunctionDef, ast.ClassDef, ast.Assign, ast.ImportFrom)
                self.assertTrue(docstring or isinstance(node, kinds), path.name)


if __name__ == "__main__":
    unittest.main()
