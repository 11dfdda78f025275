"""The interface as it is listed, and the plainest rules of LANGUAGE.md. They read the package's files."""

import ast
import inspect
import pathlib
import re
import unittest

from moveafter import blocks, lines, plans, relations, repeats, starts

PACKAGE = pathlib.Path(lines.__file__).parent

INTERFACE = {
    lines: {
        "is_line": "(value)", "is_command": "(value)", "is_script": "(value)", "moved": "(line, command)",
        "after_script": "(line, script)", "lines_from": "(line, script)", "items_of": "(script)",
    },
    blocks: {
        "block_of": "(script, item)", "source_of": "(script, item)", "blocks_of": "(script)",
        "same_blocks": "(script, other_script)", "is_effect": "(value)", "joined": "(effect, other_effect)",
    },
    repeats: {
        "after_times": "(line, script, *, times=1)", "blocks_after": "(script, *, times=1)",
        "settled_after": "(script)", "final_blocks": "(script)", "rings_of": "(script)", "period": "(script)",
    },
    relations: {
        "relation": "(script, item, other, *, times=1)", "deciding": "(script, item, other, *, times=1)",
        "relation_with": "(script, item, other, known, *, times=1)",
    },
    starts: {
        "count_ends": "(script, *, times=1)", "count_starts": "(line, script, *, times=1)",
        "nth_start": "(line, script, number, *, times=1)", "start_number": "(line, script, *, times=1)",
    },
    plans: {
        "is_possible": "(effect)", "fewest_commands": "(effect)", "plan_for": "(effect)",
        "has_effect": "(script, effect)", "count_effects": "(size)", "fewest_moves": "(line, target)",
        "moves_for": "(line, target)",
    },
}

# Of the library the package needs only these (L2).
LIBRARY = {"math": ["factorial", "lcm", "perm"]}

BUILTINS = """len range enumerate zip min max sum abs sorted reversed int str bool list tuple dict set isinstance repr
any all divmod ValueError""".split()

METHODS = """append clear copy count endswith extend find get index insert isalnum isalpha isdigit islower isspace
isupper items join keys ljust lower lstrip partition pop remove replace reverse rfind rjust rpartition rsplit rstrip
setdefault split splitlines startswith strip update upper values zfill bit_length""".split()

# Of sets that are stored (L24).
METHODS += ["add", "discard"]


def sources():
    return [(path, path.read_text(encoding="utf-8")) for path in sorted(PACKAGE.rglob("*.py"))]


def nodes(kind):
    return [(path.name, node) for path, text in sources() for node in ast.walk(ast.parse(text))
            if isinstance(node, kind)]


class Interface(unittest.TestCase):
    def test_functions(self):
        for module, functions in INTERFACE.items():
            for name, arguments in functions.items():
                function = getattr(module, name)
                self.assertEqual(function.__module__, module.__name__)
                self.assertEqual(str(inspect.signature(function)), arguments)

    def test_generator(self):
        self.assertTrue(inspect.isgeneratorfunction(lines.lines_from))


class Language(unittest.TestCase):
    def test_files(self):
        for path in PACKAGE.rglob("*"):
            if "__pycache__" not in path.parts:
                self.assertRegex(path.name, r"^[a-z0-9_]+(\.py)?$")
                self.assertTrue(path.is_dir() or path.suffix == ".py", path)

    def test_size_and_characters(self):
        for path, text in sources():
            rows = text.split("\n")
            self.assertLessEqual(len(rows), 399, path)
            for row in rows:
                self.assertLessEqual(len(row), 120, row)
                self.assertIsNone(re.search(r"[^ -~]", row), row)
        for name, node in nodes(ast.FunctionDef):
            self.assertLessEqual(node.end_lineno - node.lineno + 1, 40, (name, node.name))

    def test_imports(self):
        self.assertEqual(nodes(ast.Import), [])
        for name, node in nodes(ast.ImportFrom):
            if node.module in LIBRARY:
                for alias in node.names:
                    self.assertIn(alias.name, LIBRARY[node.module], name)
                    self.assertIsNone(alias.asname)
                continue
            self.assertTrue(node.module.startswith("moveafter."), name)
            file = PACKAGE / (node.module.split(".")[1] + ".py")
            defined = [getattr(part, "name", None) for part in ast.parse(file.read_text()).body]
            values = re.findall(r"^([A-Z_]+) = ", file.read_text(), re.MULTILINE)
            for alias in node.names:
                self.assertIn(alias.name, defined + values)
                self.assertIsNone(alias.asname)

    def test_calls(self):
        for name, node in nodes(ast.Call):
            if isinstance(node.func, ast.Attribute):
                self.assertIn(node.func.attr, METHODS, name)
        known = [node.name for _, node in nodes((ast.FunctionDef, ast.ClassDef))] + sum(LIBRARY.values(), [])
        for name, node in nodes(ast.Call):
            if isinstance(node.func, ast.Name):
                self.assertIn(node.func.id, known + BUILTINS, name)

    def test_statements(self):
        barred = (ast.Global, ast.AsyncFunctionDef, ast.Await, ast.Div, ast.Set)
        self.assertEqual(nodes(barred), [])
        for name, node in nodes(ast.Constant):
            self.assertNotIsInstance(node.value, (float, complex), name)
        for name, node in nodes((ast.FunctionDef, ast.ClassDef)):
            self.assertEqual(node.decorator_list, [], name)


if __name__ == "__main__":
    unittest.main()
