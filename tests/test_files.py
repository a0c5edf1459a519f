"""What LANGUAGE.md asks of the files themselves, as far as it can be counted: L1, L2, L3, L7, L10, L14, L15, L16."""

import ast
import builtins
import pathlib
import unittest

import towerwise

FOLDER = pathlib.Path(towerwise.__file__).parent
FILES = sorted(FOLDER.glob("*.py"))
# The modules of Python's own that a file may import from, and what of them.
LIBRARY = {
    "__future__": {"annotations"},
    "heapq": {"heappush", "heappop", "heapify", "heapreplace", "heappushpop"},
    "math": {"gcd", "lcm", "isqrt", "comb", "perm", "factorial"},
    "itertools": {"product", "combinations", "permutations", "chain", "accumulate", "pairwise", "islice",
                  "zip_longest"},
    "collections": {"defaultdict", "deque"},
}


def nodes(kind):
    """List (file, node) for all nodes of such a kind in the package."""
    return [(file, node) for file in FILES for node in ast.walk(ast.parse(file.read_text(encoding="utf-8")))
            if isinstance(node, kind)]


class Files(unittest.TestCase):
    def test_the_folder_holds_files_of_python_alone(self):
        self.assertIn(FOLDER / "__init__.py", FILES)
        for path in FOLDER.iterdir():
            self.assertTrue(path in FILES or path.name == "__pycache__", path)
            self.assertEqual(path.name, path.name.lower())

    def test_sizes_and_signs(self):
        for file in FILES:
            text = file.read_text(encoding="utf-8")
            self.assertLessEqual(len(text.splitlines()), 399, file)
            self.assertTrue(all(sign == "\n" or " " <= sign <= "~" for sign in text), file)
            for number, line in enumerate(text.splitlines(), 1):
                self.assertLessEqual(len(line), 120, (file, number))

    def test_functions_are_short(self):
        for file, node in nodes(ast.FunctionDef):
            self.assertLessEqual(node.end_lineno - node.lineno + 1, 40, (file, node.name))

    def test_imports_are_from_files_that_define_the_names(self):
        for file, node in nodes((ast.Import, ast.ImportFrom)):
            if file.name == "__main__.py" and isinstance(node, ast.Import):
                continue
            self.assertIsInstance(node, ast.ImportFrom, file)
            self.assertEqual(node.level, 0, file)
            names = {alias.name for alias in node.names}
            if node.module in LIBRARY:
                self.assertLessEqual(names, LIBRARY[node.module], file)
            else:
                self.assertLessEqual(names, self.defined(node.module), (file, node.module))

    def defined(self, module):
        """Tell the names that a file of the package defines."""
        package, name = module.split(".")
        self.assertEqual(package, "towerwise")
        body = ast.parse((FOLDER / (name + ".py")).read_text(encoding="utf-8")).body
        found = {node.name for node in body if isinstance(node, (ast.FunctionDef, ast.ClassDef))}
        found |= {node.target.id for node in body if isinstance(node, ast.AnnAssign)}
        return found | {node.targets[0].id for node in body if isinstance(node, ast.Assign)}

    def test_module_level_is_plain(self):
        plain = (ast.FunctionDef, ast.ClassDef, ast.ImportFrom, ast.Assign, ast.AnnAssign)
        for file in [path for path in FILES if path.name != "__main__.py"]:
            for node in ast.parse(file.read_text(encoding="utf-8")).body:
                docstring = isinstance(node, ast.Expr) and isinstance(node.value, ast.Constant)
                self.assertTrue(docstring or isinstance(node, plain), (file, node.lineno))

    def test_no_name_has_two_meanings(self):
        for file in FILES:
            tree = ast.parse(file.read_text(encoding="utf-8"))
            taken = {alias.name for node in ast.walk(tree) if isinstance(node, ast.ImportFrom) for alias in node.names}
            taken |= {node.name for node in ast.walk(tree) if isinstance(node, ast.ClassDef)} | set(dir(builtins))
            bound = {node.arg for node in ast.walk(tree) if isinstance(node, ast.arg)}
            bound |= {node.id for node in ast.walk(tree) if isinstance(node, ast.Name)
                      and not isinstance(node.ctx, ast.Load)}
            bound |= {node.name for node in ast.walk(tree) if isinstance(node, ast.FunctionDef)
                      and not node.name.startswith("__")}
            self.assertEqual(taken & bound, set(), file)

    def test_no_two_files_import_from_each_other(self):
        needs = {file.stem: {node.module.split(".")[1] for node in ast.walk(ast.parse(file.read_text(encoding="utf-8")))
                             if isinstance(node, ast.ImportFrom) and node.module.startswith("towerwise.")}
                 for file in FILES}
        while needs:
            free = [name for name, others in needs.items() if not others & set(needs)]
            self.assertTrue(free, needs)
            needs = {name: others for name, others in needs.items() if name not in free}

    def test_all_that_is_imported_is_used(self):
        for file in FILES:
            tree = ast.parse(file.read_text(encoding="utf-8"))
            names = {alias.name for node in ast.walk(tree) if isinstance(node, ast.ImportFrom) for alias in node.names}
            used = {node.id for node in ast.walk(tree) if isinstance(node, ast.Name)}
            self.assertLessEqual(names, used, file)

    def test_no_numbers_with_a_point(self):
        for file, node in nodes(ast.Constant):
            self.assertNotIsInstance(node.value, (float, complex), (file, node.lineno))
        for file, node in nodes(ast.Div):
            self.fail(f"{file} divides by /")
