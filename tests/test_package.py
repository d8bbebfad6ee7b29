"""The interface as the document lists it, and those rules of the language subset that a look at the files can check."""

import ast
import builtins
import importlib
import inspect
import re
import unittest
from pathlib import Path

PACKAGE = Path(__file__).resolve().parent.parent / "truechain"
INTERFACE = {
    "errors": {
        "ChainError": None, "Wrong": ["at"], "NoSpot": [], "NoText": [], "Twice": ["key"], "TooMany": ["most"],
        "NoPaper": ["key"], "NoThing": ["name"], "NoChain": ["at"], "NoOff": ["key"], "NoReading": ["key"],
        "NoOffer": ["at"], "NoDeed": [], "NoRow": [],
    },
    "kinds": {word: ["thing"] for word in ("is_whole", "is_day", "is_key", "is_point", "is_name", "is_spot")},
    "fractions": {
        "is_fraction": ["thing"], "is_small": ["thing"], "fraction": ["top", "bottom"], "plus": ["one", "other"],
        "less": ["one", "other"], "times": ["one", "other"], "order": ["one", "other"], "total": ["some"],
        "least": ["some"], "greatest": ["some"],
    },
    "stretches": {
        "is_stretch": ["thing"], "widened": ["stretch", "by"], "mixed": ["parts"], "meeting": ["some"],
        "apart": ["some"], "holds": ["stretch", "worth"], "width": ["stretch"],
    },
    "marks": {"Scale": ["marks"], "Box": ["marks"], "marks_of": ["sort", "marks"]},
    "papers": {"fault_in": ["thing"], "is_ahead": ["one", "other"], "names_in": ["paper"], "copy_of": ["paper"]},
    "texts": {"show_fraction": ["fraction"], "show_paper": ["paper"], "read_paper": ["text"]},
    "book": {"Book": []},
    "links": {"mix_at": ["book", "name", "spot"], "links": ["book", "name", "mark", "day"]},
    "ends": {"ends": ["book", "name", "spot", "day", "shut"]},
    "chains": {
        "chain": ["book", "name", "spot", "day", "shut", "by"], "nearest": ["book", "name", "spot", "day", "shut"],
        "walk": ["book", "name", "spot", "day", "rows"], "through": ["rows", "shut"],
    },
    "quarrels": {word: ["book", "name", "spot", "day", "shut"] for word in ("quarrel", "quarrels")},
    "doubts": {"windows": ["book", "key"], "all_windows": ["book"], "doubted": ["book", "key"]},
    "answers": {"answer": ["book", "key"], "lasts": ["book", "name", "spot", "day"]},
    "offers": {
        "near_with": ["book", "day", "offers", "name", "spot"], "met": ["book", "day", "offers", "wishes"],
    },
    "plans": {word: ["book", "day", "offers", "wishes"] for word in ("plan", "needed")},
    "house": {"House": []},
    "desk": {"Desk": []},
}
OF_MARKS = {"marks": [], "fits": ["spot"], "mix": ["spot"]}
METHODS = {
    ("marks", "Scale"): OF_MARKS,
    ("marks", "Box"): OF_MARKS,
    ("book", "Book"): {
        "put": ["paper"], "strike": ["key"], "kept": [], "paper": ["key"], "word": ["key"], "would": ["paper"],
        "thing": ["name"], "there": ["name", "day"], "harmed": ["name", "day"], "breaks": ["name"], "own": ["name"],
        "line": ["name", "mark"], "readings": [], "offs": [], "copied": [],
    },
    ("house", "House"): {
        "put": ["paper"], "strike": ["key"], "back": [], "kept": [], "word": ["key"], "answer": ["key"], "answers": [],
        "book": [],
    },
    ("desk", "Desk"): {"say": ["text"]},
}
LIBRARY = {
    "heapq": {"heappush", "heappop", "heapify", "heapreplace", "heappushpop"},
    "math": {"gcd", "lcm", "isqrt", "comb", "perm", "factorial"},
    "itertools": {"product", "combinations", "permutations", "chain", "accumulate", "pairwise", "islice",
                  "zip_longest"},
    "collections": {"defaultdict", "deque"},
}
BUILTINS = set("""
    len range enumerate zip min max sum abs sorted reversed int str bool bytes list tuple dict set isinstance ord repr
    any all divmod pow map iter next getattr hasattr setattr type super Exception ValueError TypeError KeyError
    IndexError LookupError ZeroDivisionError ArithmeticError OverflowError RuntimeError NotImplementedError
    AttributeError StopIteration NotImplemented
""".split())
BARRED_NODES = (ast.Global, ast.AsyncFunctionDef, ast.AsyncFor, ast.AsyncWith, ast.Await, ast.Import, ast.Div)


def files():
    """The files of the package, each with its text and its tree."""
    for path in sorted(PACKAGE.rglob("*.py")):
        text = path.read_text(encoding="utf-8")
        yield path.relative_to(PACKAGE).as_posix(), text, ast.parse(text)


class Interface(unittest.TestCase):

    def test_all_is_there_and_is_defined_where_it_is_listed(self):
        for module, rows in INTERFACE.items():
            found = importlib.import_module("truechain." + module)
            for word, arguments in rows.items():
                with self.subTest(module, word=word):
                    thing = getattr(found, word)
                    self.assertEqual(thing.__module__, "truechain." + module)
                    if inspect.isfunction(thing):
                        self.assertEqual(list(inspect.signature(thing).parameters), arguments)
                    elif arguments:
                        self.assertIn("__init__", vars(thing))
                        self.assertEqual(list(inspect.signature(thing.__init__).parameters), ["self", *arguments])

    def test_methods_are_defined_in_their_class_itself(self):
        for (module, word), rows in METHODS.items():
            made = getattr(importlib.import_module("truechain." + module), word)
            for name, arguments in rows.items():
                with self.subTest(module, word=word, name=name):
                    self.assertIn(name, vars(made))
                    self.assertEqual(list(inspect.signature(vars(made)[name]).parameters), ["self", *arguments])


class Language(unittest.TestCase):

    def test_the_folder_holds_files_of_the_package_alone(self):
        for path in PACKAGE.rglob("*"):
            if path.name == "__pycache__" or path.parent.name == "__pycache__":
                continue
            self.assertTrue(path.is_dir() or path.suffix == ".py", path)
            self.assertEqual(path.name, path.name.lower())
        self.assertTrue((PACKAGE / "__init__.py").is_file())

    def test_sizes_and_signs(self):
        for name, text, tree in files():
            with self.subTest(name):
                rows = text.split("\n")
                self.assertLessEqual(len(rows), 400)
                self.assertLessEqual(max(map(len, rows)), 120)
                self.assertTrue(all(sign == "\n" or " " <= sign <= "~" for sign in text))
                for node in ast.walk(tree):
                    if isinstance(node, ast.FunctionDef):
                        self.assertLessEqual(node.end_lineno - node.lineno + 1, 40, node.name)
                        self.assertEqual(node.decorator_list, [])

    def test_imports(self):
        for name, _, tree in files():
            for node in ast.walk(tree):
                if isinstance(node, ast.ImportFrom):
                    with self.subTest(name, module=node.module):
                        self.assertIn(node, tree.body)
                        self.assertEqual(node.level, 0)
                        words = {alias.name for alias in node.names}
                        self.assertEqual({alias.asname for alias in node.names}, {None})
                        if node.module.startswith("truechain."):
                            told = PACKAGE / (node.module.split(".")[1] + ".py")
                            defined = {row.name for row in ast.parse(told.read_text()).body if hasattr(row, "name")}
                            self.assertLessEqual({word for word in words if not word.isupper()}, defined)
                        else:
                            self.assertLessEqual(words, LIBRARY.get(node.module, set()))

    def test_statements_values_and_names(self):
        for name, _, tree in files():
            for node in ast.walk(tree):
                with self.subTest(name, row=getattr(node, "lineno", None)):
                    self.assertNotIsInstance(node, BARRED_NODES)
                    if isinstance(node, ast.Constant):
                        self.assertNotIsInstance(node.value, (float, complex))
                    if isinstance(node, ast.Name):
                        self.assertTrue(node.id in BUILTINS or not hasattr(builtins, node.id), node.id)
                        if not isinstance(node.ctx, ast.Load):
                            self.assertNotIn(node.id, BUILTINS)

    def test_module_level(self):
        allowed = (ast.ImportFrom, ast.FunctionDef, ast.ClassDef, ast.Assign)
        for name, _, tree in files():
            for row in tree.body:
                with self.subTest(name, row=row.lineno):
                    is_text = isinstance(row, ast.Expr) and isinstance(row.value, ast.Constant)
                    self.assertTrue(isinstance(row, allowed) or is_text)

    def test_names_of_attributes_and_methods(self):
        # Those that values of Python's own have are not free, but for some that the rules name.
        taken = {word for value in ("", 0, [], {}, set(), b"") for word in dir(value) if not word.startswith("_")}
        attributes = set("count index title find get join lower upper split strip copy add".split())
        methods = {"add", "discard"} | {
            "append", "clear", "copy", "count", "endswith", "extend", "find", "get", "index", "insert", "isalnum", "isalpha",
            "isdigit", "islower", "isspace", "isupper", "items", "join", "keys", "ljust", "lower", "lstrip", "partition", "pop",
            "remove", "replace", "reverse", "rfind", "rjust", "rpartition", "rsplit", "rstrip", "setdefault", "split",
            "splitlines", "startswith", "strip", "update", "upper", "values", "zfill", "bit_length"}
        for name, _, tree in files():
            for node in ast.walk(tree):
                with self.subTest(name, row=getattr(node, "lineno", None)):
                    if isinstance(node, ast.Attribute) and isinstance(node.ctx, ast.Store):
                        self.assertNotIn(node.attr, (taken | {"sort", "args", "format", "mro"}) - attributes)
                    if isinstance(node, ast.ClassDef):
                        words = {row.name for row in node.body if isinstance(row, ast.FunctionDef)}
                        self.assertEqual(words & (taken - methods), set())
                        stored = {one.attr for one in ast.walk(node)
                                  if isinstance(one, ast.Attribute) and isinstance(one.ctx, ast.Store)}
                        self.assertEqual(words & stored, set())

    def test_local_names(self):
        for name, _, tree in files():
            top = {alias.name for row in tree.body if isinstance(row, ast.ImportFrom) for alias in row.names}
            top |= {row.name for row in tree.body if isinstance(row, ast.ClassDef)}
            for node in ast.walk(tree):
                if isinstance(node, (ast.FunctionDef, ast.Lambda)):
                    words = {one.arg for one in ast.walk(node) if isinstance(one, ast.arg)}
                    words |= {one.id for one in ast.walk(node) if isinstance(one, ast.Name) and isinstance(one.ctx, ast.Store)}
                    with self.subTest(name, row=node.lineno):
                        self.assertEqual(words & top, set())

    def test_no_two_files_import_from_each_other(self):
        ahead = {}
        for name, _, tree in files():
            ahead[name] = {row.module.split(".")[1] + ".py" for row in tree.body
                           if isinstance(row, ast.ImportFrom) and row.module.startswith("truechain.")}
        while ahead:
            free = [name for name in ahead if not ahead[name] & set(ahead)]
            self.assertNotEqual(free, [], ahead)
            for name in free:
                del ahead[name]

    def test_words_that_do_not_occur(self):
        barred = set("""
            type typing typing_extensions enum Enum IntEnum StrEnum Flag IntFlag Generic Protocol ABC ABCMeta namedtuple
            NamedTuple TypedDict TYPE_CHECKING abstractmethod dataclass overload contextmanager
        """.split())
        for name, text, _ in files():
            with self.subTest(name):
                self.assertEqual(set(re.findall(r"\w+", text)) & barred, set())
