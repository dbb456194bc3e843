"""Some rules of the language of the package: imports, names and calls."""

import ast
import builtins
import pathlib
import re
import unittest

PACKAGE = pathlib.Path(__file__).resolve().parent.parent / "windowrows"
TREES = {path.stem: ast.parse(path.read_text(encoding="ascii")) for path in sorted(PACKAGE.glob("*.py"))}
BUILTINS = set(
    "len range enumerate zip min max sum abs sorted reversed int str bool list tuple dict set isinstance ord repr any "
    "all divmod Exception ValueError TypeError KeyError IndexError LookupError ZeroDivisionError NotImplemented iter "
    "next map".split()
)
BUILTIN_METHODS = set(
    "append clear copy count endswith extend find get index insert isalnum isalpha isdigit islower isspace isupper "
    "items join keys ljust lower lstrip partition pop remove replace reverse rfind rjust rpartition rsplit rstrip "
    "setdefault split splitlines startswith strip update upper values zfill bit_length add discard".split()
)


BARRED_BEGINNINGS = (
    "_wall", "_WallAttr", "_pe_", "_dcw_", "_enum_", "_cm_", "_twin_re_", "_lay_", "_law_", "_stub_", "_sre", "f_", "tb_", "co_",
)
BARRED_NAMES = set(
    "_cold _tuplegetter _outside _record _written_out _member_names register mro elements open input law version_info "
    "with_traceback add_note attrgetter breakpoint builtins compile copyright credits delattr dir eval exec exit gc "
    "getattr globals hasattr help id importlib license locals methodcaller os quit setattr super type vars sys".split()
)
BARRED_WORDS = set(
    "type typing typing_extensions enum Enum IntEnum StrEnum Flag IntFlag Generic Protocol ABC ABCMeta namedtuple "
    "NamedTuple TypedDict TYPE_CHECKING abstractmethod dataclass overload contextmanager Meta metaclass".split()
)
BUILTIN_VALUE_NAMES = {
    name for kind in (str, int, list, dict, set, bytes) for name in dir(kind) if not name.startswith("__")
}


def nodes(kind):
    return [(stem, node) for stem, tree in TREES.items() for node in ast.walk(tree) if isinstance(node, kind)]


def imports(tree):
    """Return pairs (file, name) of the package that a file imports."""
    return [
        (node.module.split(".")[1], alias.name)
        for node in ast.walk(tree) if isinstance(node, ast.ImportFrom) and node.module.startswith("windowrows.")
        for alias in node.names
    ]


def bound_at_module_level(tree):
    found = []
    for node in tree.body:
        if isinstance(node, (ast.FunctionDef, ast.ClassDef)):
            found.append(node.name)
        elif isinstance(node, ast.Assign):
            found.extend(target.id for target in node.targets)
    return found


def bound_in_functions(tree):
    """Return the names of parameters and local variables."""
    found = set()
    for node in ast.walk(tree):
        if isinstance(node, ast.arg):
            found.add(node.arg)
        elif isinstance(node, ast.Name) and isinstance(node.ctx, ast.Store):
            found.add(node.id)
    return found - set(bound_at_module_level(tree))


class Imports(unittest.TestCase):
    def test_names_come_from_the_file_that_defines_them(self):
        for stem, tree in TREES.items():
            for module, name in imports(tree):
                self.assertIn(name, bound_at_module_level(TREES[module]), stem)

    def test_imported_names_are_used(self):
        for stem, tree in TREES.items():
            used = {node.id for node in ast.walk(tree) if isinstance(node, ast.Name)}
            for _, name in imports(tree):
                self.assertIn(name, used, stem)

    def test_no_circles(self):
        needed = {stem: {module for module, _ in imports(tree)} for stem, tree in TREES.items()}
        while needed:
            free = [stem for stem, modules in needed.items() if not modules & set(needed)]
            self.assertTrue(free, sorted(needed))
            for stem in free:
                del needed[stem]


class Names(unittest.TestCase):
    def test_bound_once_at_module_level(self):
        for stem, tree in TREES.items():
            names = bound_at_module_level(tree) + [name for _, name in imports(tree)]
            self.assertEqual(len(names), len(set(names)), stem)

    def test_no_builtin_has_another_meaning(self):
        for stem, tree in TREES.items():
            for name in [*bound_at_module_level(tree), *bound_in_functions(tree)]:
                self.assertFalse(hasattr(builtins, name), (stem, name))

    def test_local_names_are_not_those_of_classes_and_imports(self):
        for stem, tree in TREES.items():
            classes = {node.name for node in ast.walk(tree) if isinstance(node, ast.ClassDef)}
            others = classes | {name for _, name in imports(tree)}
            self.assertFalse(bound_in_functions(tree) & others, stem)

    def test_attributes_are_not_methods_of_builtin_values(self):
        stored = {node.attr for _, node in nodes(ast.Attribute) if isinstance(node.ctx, ast.Store)}
        methods = {
            node.name for _, owner in nodes(ast.ClassDef) for node in owner.body if isinstance(node, ast.FunctionDef)
        }
        self.assertFalse(stored & {"items", "keys", "values", "pop", "update", "append", "sort", "format", "args"})
        self.assertFalse(stored & methods)
        self.assertFalse(methods & {"keys", "sort"})


    def all_names(self):
        """Return pairs (file, name) of all that has a name."""
        found = []
        for stem, tree in TREES.items():
            for node in ast.walk(tree):
                if isinstance(node, (ast.FunctionDef, ast.ClassDef)):
                    found.append((stem, node.name))
                elif isinstance(node, ast.Name):
                    found.append((stem, node.id))
                elif isinstance(node, ast.Attribute):
                    found.append((stem, node.attr))
                elif isinstance(node, (ast.arg, ast.keyword)):
                    found.append((stem, node.arg))
                elif isinstance(node, ast.alias):
                    found.append((stem, node.name))
        return found

    def test_names_that_are_not_used(self):
        for stem, name in self.all_names():
            self.assertFalse(name.startswith(BARRED_BEGINNINGS), (stem, name))
            self.assertNotIn(re.sub("[0-9_]*$", "", name), BARRED_NAMES, (stem, name))
            self.assertTrue(name.isascii(), (stem, name))
            if name.startswith("__"):
                self.assertTrue(name.endswith("__"), (stem, name))
            elif name.startswith("_") and name != "_":
                self.assertTrue(name[1].isalpha(), (stem, name))

    def test_words_that_do_not_occur(self):
        for path in PACKAGE.glob("*.py"):
            words = set(re.findall("[A-Za-z_]+", path.read_text(encoding="ascii")))
            self.assertFalse(words & BARRED_WORDS, path)

    def test_methods_have_names_of_their_own(self):
        for stem, owner in nodes(ast.ClassDef):
            names = [node.name for node in owner.body if isinstance(node, ast.FunctionDef)]
            self.assertEqual(len(names), len(set(names)), (stem, owner.name))
            self.assertFalse(set(names) & BUILTIN_VALUE_NAMES, (stem, owner.name))


class Calls(unittest.TestCase):
    def test_builtins(self):
        for stem, node in nodes(ast.Name):
            if hasattr(builtins, node.id):
                self.assertIn(node.id, BUILTINS, (stem, node.lineno))

    def test_methods(self):
        methods = {
            node.name for _, owner in nodes(ast.ClassDef) for node in owner.body if isinstance(node, ast.FunctionDef)
        }
        for stem, node in nodes(ast.Call):
            if isinstance(node.func, ast.Attribute):
                self.assertIn(node.func.attr, BUILTIN_METHODS | methods, (stem, node.lineno))

    def test_values_and_expressions(self):
        for stem, node in nodes((ast.GeneratorExp, ast.Div, ast.Global, ast.AsyncFunctionDef)):
            self.fail((stem, node))
        for stem, node in nodes(ast.Constant):
            self.assertNotIsInstance(node.value, float, (stem, node.lineno))
        for stem, node in nodes((ast.FunctionDef, ast.ClassDef)):
            self.assertEqual(node.decorator_list, [], (stem, node.name))


if __name__ == "__main__":
    unittest.main()
