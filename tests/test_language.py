"""The interface as it is listed, and the plainest rules of LANGUAGE.md. They read the package's files."""

import ast
import builtins
import inspect
import pathlib
import re
import unittest

from moveafter import blocks, console, friends, lines, live, plans, relations, repeats, starts, texts

PACKAGE = pathlib.Path(lines.__file__).parent

INTERFACE = {
    lines: {
        "is_line": "(value)", "is_command": "(value)", "is_script": "(value)", "moved": "(line, command)",
        "after_script": "(line, script)", "lines_from": "(line, script)", "items_of": "(script)",
    },
    blocks: {
        "block_of": "(script, item)", "source_of": "(script, item)", "blocks_of": "(script)",
        "same_blocks": "(script, other_script)", "is_effect": "(value)", "joined": "(effect, other_effect)",
    },
    repeats: {
        "after_times": "(line, script, *, times=1)", "blocks_after": "(script, *, times=1)",
        "settled_after": "(script)", "final_blocks": "(script)", "rings_of": "(script)", "period": "(script)",
    },
    relations: {
        "relation": "(script, item, other, *, times=1)", "deciding": "(script, item, other, *, times=1)",
        "relation_with": "(script, item, other, known, *, times=1)",
    },
    starts: {
        "count_ends": "(script, *, times=1)", "count_starts": "(line, script, *, times=1)",
        "nth_start": "(line, script, number, *, times=1)", "start_number": "(line, script, *, times=1)",
    },
    plans: {
        "is_possible": "(effect)", "fewest_commands": "(effect)", "plan_for": "(effect)",
        "has_effect": "(script, effect)", "count_effects": "(size)", "fewest_moves": "(line, target)",
        "moves_for": "(line, target)",
    },
    friends: {
        "is_friends": "(value)", "day_script": "(friends)", "after_days": "(line, friends, *, days=1)",
        "count_final": "(friends)", "days_needed": "(friends)", "day_period": "(friends)",
    },
    texts: {
        "show_line": "(line)", "read_line": "(text)", "show_script": "(script)", "read_script": "(text)",
    },
}

CLASSES = {
    live.LiveLine: {
        "__init__": "(self, line)", "behind": "(self, item, other)", "before": "(self, item, other)",
        "run": "(self, script, *, times=1)", "put": "(self, item)", "take": "(self, item)", "undo": "(self)",
        "log": "(self)", "preview": "(self, *operations)", "__len__": "(self)", "__eq__": "(self, other)",
    },
    console.Console: {"say": "(self, row)"},
}

# Words that no file contains outside of comments and docstrings (L17).
BARRED_WORDS = """type typing typing_extensions enum Enum IntEnum StrEnum Flag IntFlag Generic Protocol ABC ABCMeta
namedtuple NamedTuple TypedDict TYPE_CHECKING abstractmethod dataclass overload contextmanager""".split()

# Words that are no names (L17).
BARRED_NAMES = """register mro elements open input law version_info with_traceback add_note attrgetter breakpoint builtins
compile copyright credits delattr dir eval exec exit gc getattr globals hasattr help id importlib license locals
methodcaller os quit setattr super vars sys""".split()

# Of the library the package needs only these (L2).
LIBRARY = {"math": ["factorial", "lcm", "perm"]}

BUILTINS = """len range enumerate zip min max sum abs sorted reversed int str bool list tuple dict set isinstance repr
any all divmod ValueError""".split()

METHODS = """append clear copy count endswith extend find get index insert isalnum isalpha isdigit islower isspace
isupper items join keys ljust lower lstrip partition pop remove replace reverse rfind rjust rpartition rsplit rstrip
setdefault split splitlines startswith strip update upper values zfill bit_length""".split()

# Of sets that are stored (L24).
METHODS += ["add", "discard"]


def sources():
    return [(path, path.read_text(encoding="utf-8")) for path in sorted(PACKAGE.rglob("*.py"))]


def nodes(kind):
    return [(path.name, node) for path, text in sources() for node in ast.walk(ast.parse(text))
            if isinstance(node, kind)]


class Interface(unittest.TestCase):
    def test_functions(self):
        for module, functions in INTERFACE.items():
            for name, arguments in functions.items():
                function = getattr(module, name)
                self.assertEqual(function.__module__, module.__name__)
                self.assertEqual(str(inspect.signature(function)), arguments)

    def test_classes(self):
        for found, methods in CLASSES.items():
            for name, arguments in methods.items():
                self.assertEqual(str(inspect.signature(vars(found)[name])), arguments)
        self.assertEqual(str(inspect.signature(vars(live.LiveLine)["of"].__func__)), "(cls, *items)")
        self.assertEqual(live.LiveLine.__module__, "moveafter.live")
        self.assertEqual(console.Console.__module__, "moveafter.console")
        self.assertEqual([live.LiveLine.__bases__, console.Console.__bases__], [(object,), (object,)])

    def test_generator(self):
        self.assertTrue(inspect.isgeneratorfunction(lines.lines_from))


class Language(unittest.TestCase):
    def test_files(self):
        for path in PACKAGE.rglob("*"):
            if "__pycache__" not in path.parts:
                self.assertRegex(path.name, r"^[a-z0-9_]+(\.py)?$")
                self.assertTrue(path.is_dir() or path.suffix == ".py", path)

    def test_size_and_characters(self):
        for path, text in sources():
            rows = text.split("\n")
            self.assertLessEqual(len(rows), 399, path)
            for row in rows:
                self.assertLessEqual(len(row), 120, row)
                self.assertIsNone(re.search(r"[^ -~]", row), row)
        for name, node in nodes(ast.FunctionDef):
            self.assertLessEqual(node.end_lineno - node.lineno + 1, 40, (name, node.name))

    def test_imports(self):
        self.assertEqual(nodes(ast.Import), [])
        for name, node in nodes(ast.ImportFrom):
            if node.module in LIBRARY:
                for alias in node.names:
                    self.assertIn(alias.name, LIBRARY[node.module], name)
                    self.assertIsNone(alias.asname)
                continue
            self.assertTrue(node.module.startswith("moveafter."), name)
            file = PACKAGE / (node.module.split(".")[1] + ".py")
            defined = [getattr(part, "name", None) for part in ast.parse(file.read_text()).body]
            values = re.findall(r"^([A-Z_]+) = ", file.read_text(), re.MULTILINE)
            for alias in node.names:
                self.assertIn(alias.name, defined + values)
                self.assertIsNone(alias.asname)

    def test_calls(self):
        own = [part.name for _, node in nodes(ast.ClassDef) for part in node.body if isinstance(part, ast.FunctionDef)]
        for name, node in nodes(ast.Call):
            if isinstance(node.func, ast.Attribute):
                self.assertIn(node.func.attr, METHODS + own, name)
        known = [node.name for _, node in nodes((ast.FunctionDef, ast.ClassDef))] + sum(LIBRARY.values(), [])
        # A function of a table (L3), and the class of a class method (L5).
        known += ["action", "cls"]
        for name, node in nodes(ast.Call):
            if isinstance(node.func, ast.Name):
                self.assertIn(node.func.id, known + BUILTINS, name)

    def test_statements(self):
        barred = (ast.Global, ast.AsyncFunctionDef, ast.Await, ast.Div, ast.Set)
        self.assertEqual(nodes(barred), [])
        for name, node in nodes(ast.Constant):
            self.assertNotIsInstance(node.value, (float, complex), name)
        for name, node in nodes(ast.FunctionDef):
            found = [decorator.id for decorator in node.decorator_list]
            self.assertIn(found, [[], ["property"], ["classmethod"]], name)
            if found:
                self.assertEqual(name, "live.py")
        for name, node in nodes(ast.ClassDef):
            self.assertEqual(node.decorator_list, [], name)

    def test_beside_a_class_that_compares(self):
        # L7 and L19: LiveLine has `__eq__` and `__len__`.
        self.assertEqual(nodes((ast.GeneratorExp, ast.Try)), [])
        for name, node in nodes(ast.Attribute):
            self.assertNotEqual(node.attr, "sort", name)

    def test_identity(self):
        # L20
        for name, node in nodes(ast.Compare):
            for sign, other in zip(node.ops, node.comparators):
                if isinstance(sign, (ast.Is, ast.IsNot)):
                    self.assertIsInstance(other, ast.Constant, name)
                    self.assertIn(other.value, (None, True, False), name)

    def test_names(self):
        # L8, L15: no variable is called like a builtin, or like a class or an import of its file.
        for path, text in sources():
            tree = ast.parse(text)
            # A doctest that has run leaves `_` among the builtins.
            taken = set(dir(builtins)) - {"_"} | {node.name for node in tree.body if isinstance(node, ast.ClassDef)}
            for node in tree.body:
                if isinstance(node, ast.ImportFrom):
                    taken |= {alias.name for alias in node.names}
            for node in ast.walk(tree):
                if isinstance(node, ast.arg):
                    self.assertNotIn(node.arg, taken, path)
                if isinstance(node, ast.Name) and isinstance(node.ctx, ast.Store):
                    self.assertNotIn(node.id, taken, path)
                if isinstance(node, ast.FunctionDef) and not node.name.startswith("__"):
                    self.assertNotIn(node.name, taken, path)

    def test_names_are_bound_once(self):
        for path, text in sources():
            bound = []
            for node in ast.parse(text).body:
                if isinstance(node, ast.ImportFrom):
                    bound += [alias.name for alias in node.names]
                elif isinstance(node, (ast.FunctionDef, ast.ClassDef)):
                    bound.append(node.name)
                elif isinstance(node, ast.Assign):
                    bound += [target.id for target in node.targets]
            self.assertEqual(len(bound), len(set(bound)), path)

    def test_no_rings_of_imports(self):
        imported = {}
        for path, text in sources():
            found = [node.module for node in ast.walk(ast.parse(text)) if isinstance(node, ast.ImportFrom)]
            imported[path.stem] = {module.split(".")[1] for module in found if module.startswith("moveafter.")}
        while imported:
            free = [name for name, needed in imported.items() if not needed & set(imported)]
            self.assertNotEqual(free, [], imported)
            imported = {name: imported[name] for name in imported if name not in free}

    def test_words(self):
        for path, text in sources():
            tree = ast.parse(text)
            for node in ast.walk(tree):
                if isinstance(node, (ast.Module, ast.FunctionDef, ast.ClassDef)) and ast.get_docstring(node):
                    node.body[0] = ast.Pass()
            plain = ast.unparse(tree)
            for word in BARRED_WORDS:
                self.assertIsNone(re.search(rf"\b{word}\b", plain), (path, word))
            for node in ast.walk(tree):
                if isinstance(node, ast.Constant) and isinstance(node.value, str):
                    self.assertNotIn("%", node.value, path)
                for field in ["id", "arg", "attr", "name"]:
                    self.assertNotIn(getattr(node, field, None), BARRED_NAMES, path)


if __name__ == "__main__":
    unittest.main()
