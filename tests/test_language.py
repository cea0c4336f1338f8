"""The rules of ../shared/LANGUAGE.md that can be read off the code, and the interface's files."""

import ast
import builtins
import re
import unittest
from pathlib import Path

PACKAGE = Path(__file__).resolve().parent.parent / "movebook"
FILES = sorted(path for path in PACKAGE.rglob("*") if path.is_file() and "__pycache__" not in path.parts)

BUILTINS = set("""len range enumerate zip min max sum abs sorted reversed int str bool bytes list tuple dict set
    frozenset isinstance ord repr any all divmod iter next super property staticmethod classmethod Exception
    ValueError TypeError KeyError IndexError LookupError ZeroDivisionError ArithmeticError OverflowError
    RuntimeError NotImplementedError AttributeError StopIteration NotImplemented object float""".split())
BARRED_WORDS = """type typing typing_extensions enum Enum IntEnum StrEnum Flag IntFlag Generic Protocol ABC ABCMeta
    namedtuple NamedTuple TypedDict TYPE_CHECKING abstractmethod""".split()
BARRED_PARTS = ["dataclass", "overload", "contextmanager"]
BARRED_NAMES = ["register", "mro", "elements", "open", "input", "law", "version_info", "with_traceback", "add_note"]
METHODS = set("""append clear copy count endswith extend find get index insert isalnum isalpha isdigit islower
    isspace isupper items join keys ljust lower lstrip partition pop remove replace reverse rfind rjust rpartition
    rsplit rstrip setdefault split splitlines startswith strip update upper values zfill bit_length add
    discard sort removeprefix removesuffix""".split())

INTERFACE = {
    "errors": {},
    "fracs": {"fraction": ["top", "bottom"], "plus": ["one", "other"], "minus": ["one", "other"],
              "times": ["one", "other"], "over": ["one", "other"], "less": ["one", "other"], "root": ["one"]},
    "names": {"good": ["name"]},
    "places": {"middle": ["p", "q"], "share": ["p", "q", "t"], "beyond": ["p", "q"], "turned": ["p", "q"]},
    "lines": {"through": ["p", "q"], "along": ["p", "line"], "upright": ["p", "line"], "meet": ["line", "other"],
              "foot": ["p", "line"], "mirror": ["p", "line"]},
    "circles": {"about": ["p", "q"], "line_cuts": ["line", "ring"], "ring_cuts": ["ring", "other"]},
    "judging": {"in_line": ["p", "q", "r"], "side_by_side": ["line", "other"], "square_on": ["line", "other"],
                "all_round": ["p", "q", "r", "s"], "as_far": ["p", "q", "r", "s"]},
    "makings": {"sort_of": ["making"], "grounds": ["making"]},
    "rows": {"weights": ["row"], "beneath": ["row", "name"], "above": ["row", "name"]},
    "tellings": {"anew": ["row"]},
    "books": {"begun": ["book"]},
    "forms": {"gathered": ["many", "terms"], "added": ["form", "other"], "taken": ["form", "other"],
              "multiplied": ["form", "other"], "put_in": ["form", "at", "number"], "worth": ["form", "numbers"],
              "off_nought": ["many", "forms"]},
    "worked": {"free_points": ["row", "name"], "worked": ["row", "name"], "hinges": ["row", "name"],
               "claimed": ["row", "name"]},
    "ever": {"ever": ["row", "name"]},
    "sharing": {"shared": ["one", "other"]},
    "looker": {"looks": ["sheet"]},
    "texts": {"written": ["book"], "read": ["text"]},
    "desk": {},
}
CLASSES = {
    ("books", "Book"): {
        "__init__": [], "put": ["name", "making"], "rename": ["name", "other"], "lock": ["name"], "unlock": ["name"],
        "move": ["name", "place"], "shift": ["group", "by"], "rehang": ["name", "making"], "take": ["name", "whole"],
        "group": ["name", "names"], "ungroup": ["name"], "watch": ["name", "names"], "unwatch": ["name"], "hush": ["name"],
        "undo": [], "again": [], "mark": ["name"], "back": ["name"], "steps": [], "marks": [], "twin": [], "row": [],
        "making": ["name"], "telling": ["name"], "sheet": [], "weight": ["name"], "beneath": ["name"], "above": ["name"],
        "ever": ["name"], "locked": [], "groups": [], "watchers": [], "heard": ["name"]},
    ("desk", "Desk"): {"__init__": [], "told": ["line"], "book": []},
}


def parsed(path):
    return ast.parse(path.read_text())


def nodes(*kinds):
    """Each node of these kinds in the package, with a text that tells where it stands."""
    for path in FILES:
        for node in ast.walk(parsed(path)):
            if isinstance(node, kinds):
                yield f"{path.name}:{getattr(node, 'lineno', 0)}", node


def names_of(node):
    """The names that a node binds, reads or asks for."""
    if isinstance(node, ast.Name):
        return [node.id]
    if isinstance(node, ast.Attribute):
        return [node.attr]
    if isinstance(node, ast.arg):
        return [node.arg]
    return [node.name]


def methods(tree):
    return [part for node in ast.walk(tree) if isinstance(node, ast.ClassDef) for part in node.body]


class Files(unittest.TestCase):
    def test_l1_l14_plain_files(self):
        self.assertIn("__init__.py", [path.name for path in FILES])
        for path in FILES:
            self.assertRegex(path.name, r"\A(__init__|__main__|[a-z][a-z0-9_]*)\.py\Z")
            self.assertNotRegex(path.name, r"\A(law_|test|site|conftest)")

    def test_l10_l14_sizes_and_signs(self):
        for path in FILES:
            text = path.read_bytes().decode("ascii")
            self.assertRegex(text, r"\A[\n -~]*\Z", path.name)
            self.assertLessEqual(len(text.split("\n")), 399, path.name)
            for line in text.split("\n"):
                self.assertLessEqual(len(line), 120, path.name)

    def test_l10_length_of_functions(self):
        for place, node in nodes(ast.FunctionDef):
            self.assertLessEqual(node.end_lineno - node.lineno + 1, 40, place)

    def test_l17_barred_words(self):
        for path in FILES:
            words = re.findall(r"[A-Za-z0-9_]+", path.read_text())
            for barred in BARRED_WORDS:
                self.assertNotIn(barred, words, path.name)
            for barred in BARRED_PARTS:
                self.assertNotIn(barred, path.read_text(), path.name)


class Code(unittest.TestCase):
    def test_l2_l16_imports_name_the_file_that_defines(self):
        for place, node in nodes(ast.Import, ast.ImportFrom):
            self.assertIsInstance(node, ast.ImportFrom, place)
            if node.module != "__future__":
                self.assertEqual(node.level, 0, place)
                package, file = node.module.split(".")
                self.assertEqual(package, "movebook", place)
                self.assertLessEqual({alias.name for alias in node.names}, bound(PACKAGE / f"{file}.py"), place)

    def test_l3_module_level(self):
        allowed = (ast.Import, ast.ImportFrom, ast.FunctionDef, ast.ClassDef, ast.Assign, ast.AnnAssign)
        for path in FILES:
            for at, node in enumerate(parsed(path).body):
                docstring = at == 0 and isinstance(node, ast.Expr) and isinstance(node.value, ast.Constant)
                self.assertTrue(docstring or isinstance(node, allowed), path.name)

    def test_l6_l7_no_barred_statement_or_value(self):
        barred = (ast.Global, ast.AsyncFunctionDef, ast.Await, ast.Div)
        for place, node in nodes(*barred):
            self.fail(f"{place} {node}")
        for place, node in nodes(ast.Constant):
            self.assertNotIsInstance(node.value, (float, complex), place)
            if isinstance(node.value, str):
                self.assertNotIn("%", node.value, place)

    def test_l8_builtins(self):
        for place, node in nodes(ast.Name):
            if hasattr(builtins, node.id):
                self.assertIn(node.id, BUILTINS, place)

    def test_l12_l17_names(self):
        for place, node in nodes(ast.Name, ast.Attribute, ast.arg, ast.FunctionDef, ast.ClassDef):
            for name in names_of(node):
                self.assertNotIn(name, BARRED_NAMES, place)
                self.assertRegex(name, r"\A(__[a-z]+__|[A-Za-z][A-Za-z0-9_]*)\Z", place)

    def test_l20_is(self):
        for place, node in nodes(ast.Compare):
            for sign, other in zip(node.ops, node.comparators):
                if isinstance(sign, (ast.Is, ast.IsNot)):
                    self.assertIsInstance(other, ast.Constant, place)
                    self.assertIn(other.value, [None, True, False], place)

    def test_l7_stars_in_calls(self):
        for place, node in nodes(ast.Call):
            for argument in node.args:
                if isinstance(argument, ast.Starred):
                    self.assertIsInstance(argument.value, (ast.Name, ast.Attribute), place)

    def test_l19_what_a_handler_reads_of_its_error(self):
        for place, node in nodes(ast.ExceptHandler):
            self.assertIsNotNone(node.type, place)
            if node.name:
                read = [one for one in ast.walk(node) if isinstance(one, ast.Name) and one.id == node.name]
                off = [one.value for one in ast.walk(node) if isinstance(one, ast.Attribute)]
                self.assertTrue(all(one in off for one in read), place)

    def test_l15_no_name_of_a_builtin_a_class_or_an_import_is_bound_again(self):
        for path in FILES:
            tree = parsed(path)
            barred = {name for name in dir(builtins) if not name.startswith("_")}
            for node in ast.walk(tree):
                if isinstance(node, ast.ImportFrom):
                    barred.update(alias.asname or alias.name for alias in node.names)
                if isinstance(node, ast.ClassDef):
                    barred.add(node.name)
            for node in ast.walk(tree):
                if isinstance(node, ast.arg):
                    self.assertNotIn(node.arg, barred, f"{path.name}:{node.lineno}")
                if isinstance(node, ast.Name) and isinstance(node.ctx, ast.Store):
                    self.assertNotIn(node.id, barred, f"{path.name}:{node.lineno}")
                if isinstance(node, ast.FunctionDef) and node not in methods(tree):
                    self.assertNotIn(node.name, barred, f"{path.name}:{node.lineno}")

    def test_l3_l15_tables_hold_no_list_and_no_dict(self):
        for path in FILES:
            for node in parsed(path).body:
                if isinstance(node, ast.Assign):
                    self.assertEqual(len(node.targets), 1, path.name)
                    self.assertIsInstance(node.targets[0], ast.Name, path.name)
                    inner = [one for one in ast.walk(node.value) if one is not node.value]
                    for one in inner:
                        self.assertNotIsInstance(one, (ast.List, ast.Dict, ast.Set, ast.Call), path.name)

    def test_l16_no_ring_of_imports(self):
        above = {}
        for path in FILES:
            above[path.stem] = {node.module.split(".")[1] for node in ast.walk(parsed(path))
                                if isinstance(node, ast.ImportFrom) and node.module != "__future__"}
        while above:
            free = [name for name in above if not above[name] & set(above)]
            self.assertTrue(free, sorted(above))
            for name in free:
                del above[name]

    def test_l18_no_name_is_a_method_and_an_attribute(self):
        own = {part.name for path in FILES for part in methods(parsed(path)) if isinstance(part, ast.FunctionDef)}
        assigned = {node.attr for place, node in nodes(ast.Attribute) if isinstance(node.ctx, ast.Store)}
        self.assertEqual(own & assigned, set())
        in_classes = {node.attr for path in FILES for part in methods(parsed(path)) for node in ast.walk(part)
                      if isinstance(node, ast.Attribute) and isinstance(node.ctx, ast.Store)}
        for place, node in nodes(ast.Attribute):
            if node.attr not in METHODS | own:
                self.assertIn(node.attr, in_classes, place)

    def test_l26_names_of_methods_and_attributes(self):
        builtin = {name for kind in (str, int, list, dict, set, bytes, tuple) for name in dir(kind)}
        own = {part.name for path in FILES for part in methods(parsed(path)) if isinstance(part, ast.FunctionDef)}
        assigned = {node.attr for place, node in nodes(ast.Attribute) if isinstance(node.ctx, ast.Store)}
        self.assertEqual({name for name in own | assigned if not name.startswith("__")} & builtin, set())

    def test_l4_no_decorators_and_plain_parameters(self):
        for place, node in nodes(ast.FunctionDef):
            self.assertEqual((node.decorator_list, node.args.posonlyargs), ([], []), place)

    def test_l24_sets_are_not_kept(self):
        for place, node in nodes(ast.Set, ast.SetComp):
            self.fail(place)
        for place, node in nodes(ast.Name):
            self.assertNotIn(node.id, ("set", "frozenset"), place)

    def test_l25_methods(self):
        own = {node.name for place, node in nodes(ast.FunctionDef)}
        for place, node in nodes(ast.Call):
            if isinstance(node.func, ast.Attribute):
                self.assertIn(node.func.attr, METHODS | own, place)

    def test_l27_powers(self):
        for place, node in nodes(ast.BinOp):
            if isinstance(node.op, ast.Pow):
                self.assertIsInstance(node.right, ast.Constant, place)
                self.assertIn(node.right.value, range(65), place)


def bound(path):
    """The names that a file defines itself."""
    found = set()
    for node in parsed(path).body:
        if isinstance(node, (ast.FunctionDef, ast.ClassDef)):
            found.add(node.name)
        if isinstance(node, ast.Assign):
            found.update(target.id for target in node.targets)
    return found


class Interface(unittest.TestCase):
    def test_functions_stand_in_their_files_with_their_arguments(self):
        for file, functions in INTERFACE.items():
            body = parsed(PACKAGE / f"{file}.py").body
            defined = {node.name: node for node in body if isinstance(node, ast.FunctionDef)}
            for name, arguments in functions.items():
                self.assertIn(name, defined)
                self.assertEqual([one.arg for one in defined[name].args.args], arguments, name)

    def test_methods_stand_in_their_classes_with_their_arguments(self):
        for (file, name), listed in CLASSES.items():
            [found] = [node for node in parsed(PACKAGE / f"{file}.py").body
                       if isinstance(node, ast.ClassDef) and node.name == name]
            defined = {node.name: node for node in found.body if isinstance(node, ast.FunctionDef)}
            for method, arguments in listed.items():
                self.assertIn(method, defined)
                self.assertEqual([one.arg for one in defined[method].args.args], ["self", *arguments], method)


if __name__ == "__main__":
    unittest.main()
