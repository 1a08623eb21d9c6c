"""The package keeps to the small language: the rules that can be seen in its text."""

import ast
import builtins
import pathlib
import re
import unittest

PACKAGE = pathlib.Path(__file__).resolve().parent.parent / "halvewright"
FILES = sorted(PACKAGE.glob("*.py"))
BUILTINS = set(
    "len range enumerate zip min max sum abs sorted reversed int str bool bytes list tuple dict set "
    "frozenset isinstance ord repr any all divmod Exception ValueError TypeError KeyError IndexError "
    "LookupError ZeroDivisionError ArithmeticError OverflowError RuntimeError NotImplementedError super".split()
)
METHODS = set(
    "append clear copy count endswith extend find get index insert isalnum isalpha isdigit islower isspace "
    "isupper items join keys ljust lower lstrip partition pop remove replace reverse rfind rjust rpartition "
    "rsplit rstrip setdefault split splitlines startswith strip update upper values zfill bit_length sort "
    "title capitalize swapcase casefold center expandtabs removeprefix removesuffix rindex isascii isdecimal "
    "isnumeric istitle isidentifier isprintable translate add discard __init__".split()
)
WORDS = set(
    "type typing typing_extensions enum Enum IntEnum StrEnum Flag IntFlag Generic Protocol ABC ABCMeta "
    "namedtuple NamedTuple TypedDict TYPE_CHECKING abstractmethod".split()
)
NAMES = set(
    "register mro elements open input version_info with_traceback add_note attrgetter breakpoint compile "
    "dir eval exec exit gc getattr globals hasattr help id locals os quit setattr vars sys".split()
)


def parsed(file):
    return ast.parse(file.read_text(), str(file))


def module_names(tree):
    """Each name that is bound at module level, as often as it is."""
    found = []
    for row in tree.body:
        if isinstance(row, (ast.FunctionDef, ast.ClassDef)):
            found.append(row.name)
        elif isinstance(row, ast.ImportFrom):
            found.extend(name.asname or name.name for name in row.names)
        elif isinstance(row, ast.Assign):
            found.extend(target.id for target in row.targets)
    return found


def local_names(function):
    found = {part.arg for part in ast.walk(function) if isinstance(part, ast.arg)}
    for part in ast.walk(function):
        if isinstance(part, ast.Name) and isinstance(part.ctx, ast.Store):
            found.add(part.id)
    return found


def classes():
    return [part for file in FILES for part in parsed(file).body if isinstance(part, ast.ClassDef)]


def own_methods():
    return {row.name for part in classes() for row in part.body if isinstance(row, ast.FunctionDef)}


def functions(tree):
    return [part for part in ast.walk(tree) if isinstance(part, ast.FunctionDef)]


class TestFiles(unittest.TestCase):
    def test_the_folder_holds_nothing_else(self):
        self.assertIn("__init__.py", [file.name for file in FILES])
        for file in PACKAGE.iterdir():
            if file.name != "__pycache__":
                self.assertRegex(file.name, r"\A[a-z0-9_]+\.py\Z")

    def test_signs_and_sizes(self):
        for file in FILES:
            text = file.read_text()
            self.assertEqual(re.sub(r"[ -~\n]", "", text), "", file)
            rows = text.split("\n")
            self.assertLessEqual(len(rows), 401, file)
            self.assertLessEqual(max(len(row) for row in rows), 120, file)
            for function in functions(parsed(file)):
                self.assertLessEqual(function.end_lineno - function.lineno + 1, 40, function.name)

    def test_words(self):
        for file in FILES:
            found = set(re.findall(r"\w+", file.read_text()))
            self.assertEqual(found & WORDS, set(), file)
            self.assertNotRegex(file.read_text(), "dataclass|overload|contextmanager")


class TestModules(unittest.TestCase):
    def test_imports(self):
        for file in FILES:
            for part in ast.walk(parsed(file)):
                self.assertNotIsInstance(part, ast.Import)
                if isinstance(part, ast.ImportFrom):
                    self.assertEqual(part.col_offset, 0, file)
                    self.assertRegex(part.module, r"\Ahalvewright\.[a-z]+\Z")
                    source = parsed(PACKAGE / (part.module.split(".")[1] + ".py"))
                    own = [row for row in source.body if not isinstance(row, ast.ImportFrom)]
                    names = module_names(ast.Module(own, []))
                    for name in part.names:
                        self.assertIn(name.name, names, file)

    def test_no_files_import_from_each_other(self):
        needs = {
            file.stem: {
                row.module.split(".")[1] for row in parsed(file).body if isinstance(row, ast.ImportFrom)
            }
            for file in FILES
        }
        while needs:
            free = [name for name in needs if not needs[name] & set(needs)]
            self.assertNotEqual(free, [], needs)
            for name in free:
                del needs[name]

    def test_module_level(self):
        allowed = (ast.FunctionDef, ast.ClassDef, ast.ImportFrom, ast.Assign, ast.Expr)
        for file in FILES:
            tree = parsed(file)
            for row in tree.body:
                self.assertIsInstance(row, allowed)
                if isinstance(row, ast.Expr):
                    self.assertEqual(row, tree.body[0])
            names = module_names(tree)
            self.assertEqual(len(names), len(set(names)), file)


class TestNames(unittest.TestCase):
    def test_local_names(self):
        for file in FILES:
            tree = parsed(file)
            rows = [row for row in tree.body if isinstance(row, (ast.ImportFrom, ast.ClassDef))]
            taken = set(module_names(ast.Module(rows, []))) | set(dir(builtins))
            for function in functions(tree):
                self.assertEqual(local_names(function) & taken, set(), (file, function.name))

    def test_plain_names(self):
        for file in FILES:
            for part in ast.walk(parsed(file)):
                for name in (getattr(part, field, None) for field in ("id", "arg", "attr", "name")):
                    if isinstance(name, str) and name != "__init__":
                        self.assertRegex(name, r"\A[A-Za-z][A-Za-z0-9_]*\Z")
                        self.assertNotIn(name, NAMES)

    def test_builtins(self):
        for file in FILES:
            for part in ast.walk(parsed(file)):
                if isinstance(part, ast.Name) and part.id in dir(builtins):
                    self.assertIn(part.id, BUILTINS, file)

    def test_methods(self):
        allowed = METHODS | own_methods()
        for file in FILES:
            for part in ast.walk(parsed(file)):
                if isinstance(part, ast.Call) and isinstance(part.func, ast.Attribute):
                    self.assertIn(part.func.attr, allowed, file)

    def test_methods_and_attributes_have_names_of_their_own(self):
        stored = {
            part.attr for file in FILES for part in ast.walk(parsed(file))
            if isinstance(part, ast.Attribute) and isinstance(part.ctx, ast.Store)
        }
        methods = own_methods() - {"__init__"}
        self.assertEqual(stored & methods, set())
        builtin_names = {name for kind in (str, int, list, dict, set, bytes, tuple) for name in dir(kind)}
        self.assertEqual((stored | methods) & builtin_names, set())

    def test_classes_define_what_the_interface_lists(self):
        listed = {"Drawing": {"undoes", "undo", "knots", "rings"}, "Desk": {"say"}}
        found = {part.name: {getattr(row, "name", None) for row in part.body} for part in classes()}
        for name, methods in listed.items():
            self.assertLessEqual(methods, found[name])

    def test_one_lambda_on_a_line(self):
        for file in FILES:
            lines = [part.lineno for part in ast.walk(parsed(file)) if isinstance(part, ast.Lambda)]
            self.assertEqual(len(lines), len(set(lines)), file)


class TestExpressions(unittest.TestCase):
    def test_numbers_and_strings(self):
        for file in FILES:
            for part in ast.walk(parsed(file)):
                self.assertNotIsInstance(part, (ast.Div, ast.Pow, ast.Global, ast.AsyncFunctionDef))
                if isinstance(part, ast.Constant):
                    self.assertNotIsInstance(part.value, (float, complex))
                    if isinstance(part.value, str):
                        self.assertNotIn(chr(37), part.value)

    def test_is_stands_with_none_true_false_alone(self):
        for file in FILES:
            for part in ast.walk(parsed(file)):
                if isinstance(part, ast.Compare):
                    for sign, right in zip(part.ops, part.comparators):
                        if isinstance(sign, (ast.Is, ast.IsNot)):
                            self.assertIsInstance(right, ast.Constant)
                            self.assertIn(right.value, (None, True, False))

    def test_what_is_iterated_at_once_is_not_stored(self):
        lazy = {"zip", "enumerate", "reversed", "range", "items", "keys", "values"}
        for file in FILES:
            for part in ast.walk(parsed(file)):
                if isinstance(part, (ast.Assign, ast.Return)) and isinstance(part.value, ast.Call):
                    called = part.value.func
                    self.assertNotIn(getattr(called, "id", getattr(called, "attr", None)), lazy, (file, part.lineno))

    def test_no_function_calls_itself(self):
        for file in FILES:
            for function in functions(parsed(file)):
                called = {part.id for part in ast.walk(function) if isinstance(part, ast.Name)}
                self.assertNotIn(function.name, called, file)


if __name__ == "__main__":
    unittest.main()
