"""Those rules of the program's language that can be checked simply, over the files of the package."""

import ast
import builtins
import importlib
import inspect
import pathlib
import re
import unittest

PACKAGE = pathlib.Path(__file__).resolve().parent.parent / "trunkland"
BUILTINS = """len range enumerate zip min max sum abs sorted reversed int str bool list tuple dict set frozenset
isinstance ord repr any all divmod pow iter next map super property staticmethod classmethod Exception ValueError
TypeError KeyError IndexError LookupError ZeroDivisionError ArithmeticError OverflowError RuntimeError
NotImplementedError AttributeError StopIteration NotImplemented""".split()
METHODS = """append clear copy count endswith extend find get index insert isalnum isalpha isdigit islower isspace
isupper items join keys ljust lower lstrip partition pop remove replace reverse rfind rjust rpartition rsplit rstrip
setdefault split splitlines startswith strip update upper values zfill bit_length add discard sort""".split()
BARRED = """type typing typing_extensions enum Enum IntEnum StrEnum Flag IntFlag Generic Protocol ABC ABCMeta
namedtuple NamedTuple TypedDict TYPE_CHECKING abstractmethod""".split()
NEVER_NAMES = """register mro elements open input law version_info with_traceback add_note id dir exit help vars
globals locals eval exec compile""".split()
KINDS_NOT_USED = (ast.Global, ast.AsyncFunctionDef, ast.AsyncFor, ast.AsyncWith, ast.Await, ast.Div, ast.Import)
# What the interface lists: the parameters of each function and class, by the file that defines it.
INTERFACE = {
    "errors": {"TrunklandError": None, "LetterError": ["line"], "ConfigError": ["setting"]},
    "words": {"is_name": ["word"], "is_tag": ["word"], "is_address": ["word"], "read_number": ["word", "most"],
              "split_address": ["word"]},
    "offers": {"read_offer": ["words"], "write_offer": ["offer"], "answer": ["able", "offer"], "held": ["offer"],
               "flows": ["offer", "answered"]},
    "letters": {"Letter": ["verb", "call", "origin", "origin_tag", "target", "target_tag", "seq", "way", "code", "offer",
                           "stay", "goal"], "write": ["letter"], "read": ["text"]},
    "clients": {"Client": ["letter", "place", "now", "first"]},
    "servers": {"Server": ["letter", "place", "first"]},
    "legs": {"Leg": ["tag", "call", "own", "other", "place", "able", "first", "check", "seq"]},
    "places": {"Places": ["users", "stations", "longest"]},
    "tariffs": {"Tariff": ["unit", "bands", "last"]},
    "journal": {"checksum": ["text"], "sealed": ["text"], "read_journal": ["text"], "Journal": []},
    "ledger": {"Ledger": ["tariff"], "recover": ["tariff", "text", "now"]},
    "config": {"Config": ["host", "users", "stations", "tariff", "first", "patience", "check", "longest", "most_calls",
                          "save"]},
    "calls": {"tell": ["events"]},
    "exchange": {"start": ["config"], "restart": ["config", "text", "now", "restarts"], "Exchange": None},
    "phones": {"Phone": ["place", "user", "host", "able", "first", "check", "patience", "auto"]},
    "network": {"World": ["config", "phones", "fates", "slowest"]},
    "bounds": {"quiet_bound": ["config"], "settle_bound": ["config", "phones", "slowest"]},
    "judging": {"judge": ["events", "tariff", "bills", "pending"]},
}
# The methods of each class that the interface lists, and their parameters behind self.
CLASSES = {
    "Letter": {"parts": [], "reply": ["code", "tag", "offer", "stay"]},
    "Client": {"sending": [], "take": ["reply", "now"], "stop": ["now"], "tick": ["now"], "is_over": []},
    "Server": {"matches": ["letter", "place"], "again": [], "reply": ["letter", "now"], "keep": ["now"],
               "tick": ["now"], "is_over": []},
    "Leg": {"call_out": ["offer", "now"], "call_in": ["letter"], "ring": ["now"], "accept": ["offer", "now"],
            "refuse": ["code", "now"], "hang_up": ["now"], "turn": ["offer", "now"], "move": ["goal", "now"],
            "receive": ["letter", "place", "now"], "tick": ["now"], "take_events": [], "is_done": []},
    "Places": {"sign": ["user", "place", "seq", "stay", "now"], "of": ["user", "now"], "bindings": ["now"]},
    "Tariff": {"units": ["span"], "cost": ["span"]},
    "Journal": {"append": ["text"], "sync": [], "after_crash": ["kept"]},
    "Ledger": {"begin": ["number", "caller", "callee", "now"], "finish": ["number", "now"], "is_open": ["number"],
               "bills": [], "pending": [], "greatest": []},
    "Exchange": {"receive": ["text", "place", "now"], "hang_up": ["number", "now"], "tick": ["now"], "is_quiet": []},
    "Phone": {"sign": ["stay", "now"], "dial": ["user", "now"], "answer": ["now"], "hang_up": ["now"], "hold": ["now"],
              "resume": ["now"], "move": ["user", "now"], "receive": ["text", "place", "now"], "tick": ["now"],
              "state": [], "is_quiet": []},
    "World": {"step": ["commands"], "is_quiet": []},
}


def read_package():
    """Return the texts of the files of the package, by their names."""
    return {path.name: path.read_bytes().decode("ascii") for path in sorted(PACKAGE.glob("*.py"))}


def bound_names(tree):
    """Return the names that a file binds anywhere: variables, parameters, functions, classes, imports."""
    names = []
    for node in ast.walk(tree):
        if isinstance(node, ast.Name) and not isinstance(node.ctx, ast.Load):
            names.append(node.id)
        elif isinstance(node, ast.arg):
            names.append(node.arg)
        elif isinstance(node, (ast.FunctionDef, ast.ClassDef)):
            names.append(node.name)
        elif isinstance(node, ast.alias):
            names.append(node.asname or node.name)
    return names


class LanguageTest(unittest.TestCase):
    @classmethod
    def setUpClass(cls):
        cls.texts = read_package()
        cls.trees = {name: ast.parse(text) for name, text in cls.texts.items()}

    def each_node(self, *kinds):
        for name, tree in self.trees.items():
            for node in ast.walk(tree):
                if isinstance(node, kinds):
                    yield f"{name}:{getattr(node, 'lineno', '')}", node

    def test_files(self):
        found = [path.name for path in PACKAGE.iterdir() if path.name != "__pycache__"]
        self.assertEqual(sorted(found), sorted(self.texts))
        self.assertIn("__init__.py", found)
        for name in found:
            self.assertRegex(name, r"\A([a-z][a-z0-9_]*|__init__|__main__)\.py\Z")

    def test_sizes_and_characters(self):
        for name, text in self.texts.items():
            lines = text.split("\n")
            self.assertLessEqual(len(lines) - 1, 399, name)
            for line in lines:
                self.assertRegex(line, r"\A[ -~]{0,120}\Z", name)

    def test_functions_are_small(self):
        for place, node in self.each_node(ast.FunctionDef):
            self.assertLessEqual(node.end_lineno - node.lineno + 1, 40, place)

    def test_no_other_statements_and_values(self):
        for place, node in self.each_node(*KINDS_NOT_USED):
            self.fail(f"{place}: {node}")
        for place, node in self.each_node(ast.Constant):
            self.assertNotIsInstance(node.value, (float, complex), place)
            if isinstance(node.value, str):
                self.assertNotIn("%", node.value, place)

    def test_imports_name_the_file_that_defines(self):
        for place, node in self.each_node(ast.ImportFrom):
            self.assertEqual(node.level, 0, place)
            package, _, module = node.module.partition(".")
            if package != "trunkland":
                self.assertIn(package, ["heapq", "math", "itertools", "collections"], place)
                continue
            defined = bound_names(self.trees[module + ".py"])
            imported = [alias.name for part in ast.walk(self.trees[module + ".py"])
                        if isinstance(part, ast.ImportFrom) for alias in part.names]
            for alias in node.names:
                self.assertIn(alias.name, defined, place)
                self.assertNotIn(alias.name, imported, place)

    def test_imports_do_not_go_in_circles(self):
        reached = {name: {node.module.partition(".")[2] + ".py" for node in ast.walk(tree)
                          if isinstance(node, ast.ImportFrom)} for name, tree in self.trees.items()}
        for _ in reached:
            for name in reached:
                reached[name] = reached[name].union(*[reached.get(other, set()) for other in reached[name]])
        for name in reached:
            self.assertNotIn(name, reached[name])

    def test_builtins(self):
        for place, node in self.each_node(ast.Name):
            if node.id in dir(builtins):
                self.assertIn(node.id, BUILTINS, place)
                self.assertIsInstance(node.ctx, ast.Load, place)

    def test_methods(self):
        own = [node.name for _, node in self.each_node(ast.FunctionDef)]
        for place, node in self.each_node(ast.Call):
            if isinstance(node.func, ast.Attribute) and node.func.attr != "__init__":
                self.assertIn(node.func.attr, METHODS + own, place)

    def test_names(self):
        for name, tree in self.trees.items():
            for bound in bound_names(tree):
                self.assertRegex(bound, r"\A(_|_?[A-Za-z]\w*|__[a-z]+__)\Z", name)
                self.assertNotIn(bound, dir(builtins), name)
                self.assertNotIn(bound, NEVER_NAMES, name)

    def test_imports_and_classes_keep_their_names(self):
        for name, tree in self.trees.items():
            fixed = [alias.name for node in ast.walk(tree) if isinstance(node, ast.ImportFrom) for alias in node.names]
            fixed += [node.name for node in tree.body if isinstance(node, ast.ClassDef)]
            for bound in bound_names(tree):
                self.assertLessEqual(bound_names(tree).count(bound), 1 if bound in fixed else 999, f"{name}: {bound}")

    def test_barred_words(self):
        for place, node in self.each_node(ast.Name, ast.Attribute, ast.arg, ast.keyword):
            word = getattr(node, "id", None) or getattr(node, "attr", None) or getattr(node, "arg", None)
            self.assertNotIn(word, BARRED, place)
        for name, text in self.texts.items():
            self.assertIsNone(re.search("dataclass|overload|contextmanager|_wall|_WallAttr", text), name)

    def test_module_level(self):
        for name, tree in self.trees.items():
            names = []
            for node in tree.body:
                if isinstance(node, ast.Assign):
                    self.assertEqual([type(target) for target in node.targets], [ast.Name], name)
                    names.append(node.targets[0].id)
                elif isinstance(node, (ast.FunctionDef, ast.ClassDef)):
                    names.append(node.name)
                elif isinstance(node, ast.ImportFrom):
                    names += [alias.name for alias in node.names]
                else:
                    self.assertTrue(isinstance(node, ast.Expr) and isinstance(node.value, ast.Constant), name)
            self.assertEqual(len(names), len(set(names)), name)

    def test_interface_is_defined_where_it_is_listed(self):
        for module, listed in INTERFACE.items():
            defined = [node.name for node in self.trees[module + ".py"].body
                       if isinstance(node, (ast.FunctionDef, ast.ClassDef))]
            loaded = importlib.import_module("trunkland." + module)
            for name, parameters in listed.items():
                self.assertIn(name, defined, module)
                if parameters is not None:
                    found = inspect.signature(getattr(loaded, name)).parameters
                    self.assertEqual(list(found), parameters, name)

    def test_methods_stand_in_the_body_of_their_class(self):
        bodies = {node.name: node for _, node in self.each_node(ast.ClassDef)}
        for name, methods in CLASSES.items():
            found = {node.name: [part.arg for part in node.args.args][1:] for node in bodies[name].body
                     if isinstance(node, ast.FunctionDef)}
            for method, parameters in methods.items():
                self.assertEqual(found.get(method), parameters, f"{name}.{method}")

    def test_attributes_are_assigned_through_plain_names(self):
        for place, node in self.each_node(ast.Attribute):
            if isinstance(node.ctx, ast.Store):
                self.assertIsInstance(node.value, ast.Name, place)

    def test_no_name_is_a_method_and_an_attribute_of_one_class(self):
        for place, body in self.each_node(ast.ClassDef):
            methods = [node.name for node in body.body if isinstance(node, ast.FunctionDef)]
            self.assertEqual(len(methods), len(set(methods)), place)
            for node in ast.walk(body):
                if isinstance(node, ast.Attribute) and isinstance(node.ctx, ast.Store):
                    self.assertNotIn(node.attr, methods, place)
