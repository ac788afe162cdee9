"""The package keeps to the plain part of the language that it is written in.

This looks for what can be seen of those rules one node at a time; it is stricter than
they are in places (no generators, no error of Python's own is caught).
"""

import ast
import pathlib
import re
import unittest

FOLDER = pathlib.Path(__file__).resolve().parent.parent / "roadqueues"
FILES = sorted(path for path in FOLDER.rglob("*") if path.is_file() and "__pycache__" not in path.parts)

LIBRARY = {
    "heapq": {"heappush", "heappop", "heapify", "heapreplace", "heappushpop"},
    "math": {"gcd", "lcm", "isqrt", "comb", "perm", "factorial"},
    "itertools": {"product", "combinations", "permutations"},
    "collections": {"defaultdict", "deque"},
}
BUILTINS = set(
    "len range enumerate zip min max sum abs sorted reversed int str bool list tuple dict set isinstance ord repr"
    " any all divmod pow map iter next property ValueError KeyError True False None".split(" ")
)
METHODS = set(
    "append clear copy count endswith extend find get index insert isalnum isalpha isdigit islower isspace isupper"
    " items join keys ljust lower lstrip partition pop remove replace reverse rfind rjust rpartition rsplit rstrip"
    " setdefault split splitlines startswith strip update upper values zfill bit_length isascii isdecimal add discard"
    " sort appendleft popleft extendleft rotate".split(" ")
)
SPECIAL_METHODS = {"__init__", "__len__", "__contains__", "__eq__", "__repr__", "__str__"}
BARRED_NODES = (
    ast.AsyncFor, ast.AsyncFunctionDef, ast.AsyncWith, ast.Await, ast.Global, ast.GeneratorExp, ast.Yield,
    ast.YieldFrom, ast.With, ast.Match, ast.Div, ast.MatMult, ast.Import,
)
BARRED_WORDS = re.compile(
    r"\b(type|typing|typing_extensions|enum|Enum|IntEnum|StrEnum|Flag|IntFlag|Generic|Protocol|ABC|ABCMeta|namedtuple"
    r"|NamedTuple|TypedDict|TYPE_CHECKING|abstractmethod)\b|dataclass|overload|contextmanager"
)
BARRED_NAMES = set(
    "register mro elements open input law version_info with_traceback add_note attrgetter breakpoint builtins compile"
    " copyright credits delattr dir eval exec exit gc getattr globals hasattr help id importlib license locals"
    " methodcaller os quit setattr super sys type vars hash round filter format object print float bytes".split(" ")
)


def parsed():
    """The path, the text and the tree of each file."""
    for path in FILES:
        text = path.read_text(encoding="ascii")
        yield path.relative_to(FOLDER), text, ast.parse(text)


def docstrings(tree):
    """The nodes of all docstrings."""
    found = []
    for node in ast.walk(tree):
        if isinstance(node, (ast.Module, ast.ClassDef, ast.FunctionDef)) and ast.get_docstring(node) is not None:
            found.append(node.body[0].value)
    return found


def bound_names(tree):
    """All names that are assigned, or are those of parameters, functions and classes, with their nodes."""
    for node in ast.walk(tree):
        if isinstance(node, ast.Name) and isinstance(node.ctx, (ast.Store, ast.Del)):
            yield node.id, node
        elif isinstance(node, ast.arg):
            yield node.arg, node
        elif isinstance(node, (ast.FunctionDef, ast.ClassDef)):
            yield node.name, node


class Language(unittest.TestCase):
    def told(self, path, node, why):
        self.fail(f"{path}:{node.lineno}: {why}")

    def test_the_folder_holds_plain_files_alone(self):
        self.assertIn("__init__.py", [path.name for path in FILES])
        for path in FILES:
            self.assertRegex(path.name, r"\A([a-z][a-z0-9_]*|__init__)\.py\Z")

    def test_sizes_and_signs(self):
        for path, text, tree in parsed():
            lines = text.split("\n")
            self.assertLessEqual(len(lines) - 1, 399, path)
            for number, line in enumerate(lines, start=1):
                self.assertRegex(line, r"\A[ -~]{0,120}\Z", f"{path}:{number}")
            for node in ast.walk(tree):
                if isinstance(node, ast.FunctionDef) and node.end_lineno - node.lineno >= 40:
                    self.told(path, node, "more than 40 lines")

    def test_module_level(self):
        for path, _, tree in parsed():
            above = set()
            for node in tree.body:
                if isinstance(node, ast.FunctionDef):
                    above.add(node.name)
                if isinstance(node, ast.Assign) and isinstance(node.value, ast.Dict) and {
                        type(part) for part in node.value.values} == {ast.Name}:
                    # A table of functions that are defined above.
                    self.assertLessEqual({part.id for part in node.value.values}, above)
                elif isinstance(node, ast.Assign):
                    ast.literal_eval(node.value)
                elif not isinstance(node, (ast.ImportFrom, ast.FunctionDef, ast.ClassDef)):
                    self.assertIs(node, tree.body[0], path)

    def test_imports_name_the_file_that_defines_the_name(self):
        defined = {}
        for path, _, tree in parsed():
            defined["roadqueues." + path.stem] = {
                *[node.name for node in tree.body if isinstance(node, (ast.FunctionDef, ast.ClassDef))],
                *[node.targets[0].id for node in tree.body if isinstance(node, ast.Assign)],
            }
        for path, _, tree in parsed():
            for node in ast.walk(tree):
                if isinstance(node, ast.ImportFrom):
                    self.assertEqual(node.level, 0)
                    for one in node.names:
                        self.assertIsNone(one.asname)
                        self.assertIn(one.name, defined.get(node.module, LIBRARY.get(node.module, ())), path)

    def test_nodes_that_are_not_let(self):
        for path, _, tree in parsed():
            for node in ast.walk(tree):
                if isinstance(node, BARRED_NODES):
                    self.told(path, node, "barred: " + type(node).__name__)
                if isinstance(node, ast.FunctionDef) and [ast.unparse(one) for one in node.decorator_list] not in (
                        [], ["property"], ["staticmethod"], ["classmethod"]):
                    self.told(path, node, "a decorator")
                if isinstance(node, ast.Constant) and isinstance(node.value, (float, complex, bytes)):
                    self.told(path, node, "a literal of a barred kind")
                if isinstance(node, ast.ExceptHandler) and ast.unparse(node.type or node) in (
                        "ValueError", "LookupError", "IndexError", "Exception", "TypeError"):
                    self.told(path, node, "an error of Python's own is caught")

    def test_names(self):
        for path, _, tree in parsed():
            imported = {one.name for node in ast.walk(tree) if isinstance(node, ast.ImportFrom) for one in node.names}
            classes = {node.name for node in ast.walk(tree) if isinstance(node, ast.ClassDef)}
            for name, node in bound_names(tree):
                special = isinstance(node, ast.FunctionDef) and name in SPECIAL_METHODS
                if not special and re.fullmatch(r"_|_?[A-Za-z][A-Za-z0-9_]*", name) is None:
                    self.told(path, node, "no plain name: " + name)
                if name in BUILTINS | BARRED_NAMES:
                    self.told(path, node, "a name that is taken: " + name)
                if name in imported or name in classes and not isinstance(node, ast.ClassDef):
                    self.told(path, node, "a name that is bound twice: " + name)

    def test_names_that_are_read_are_bound_or_let(self):
        for path, _, tree in parsed():
            known = {name for name, _ in bound_names(tree)} | BUILTINS
            known |= {one.name for node in ast.walk(tree) if isinstance(node, ast.ImportFrom) for one in node.names}
            for node in ast.walk(tree):
                if isinstance(node, ast.Name) and (node.id not in known or node.id == "_" and isinstance(node.ctx, ast.Load)):
                    self.told(path, node, "a name that is not let: " + node.id)

    def test_methods_and_attributes(self):
        stored, methods = set(), set()
        for _, _, tree in parsed():
            for node in ast.walk(tree):
                if isinstance(node, ast.Attribute) and isinstance(node.ctx, ast.Store):
                    stored.add(node.attr)
                if isinstance(node, ast.ClassDef):
                    methods |= {part.name for part in node.body if isinstance(part, ast.FunctionDef)}
        self.assertEqual(sorted(stored & methods), [])
        for path, _, tree in parsed():
            for node in ast.walk(tree):
                if isinstance(node, ast.Attribute) and node.attr not in METHODS | stored | methods:
                    self.told(path, node, "an attribute that is not let: " + node.attr)

    def test_properties_and_operators_only_return(self):
        for path, _, tree in parsed():
            for node in ast.walk(tree):
                if isinstance(node, ast.FunctionDef) and (
                        node.decorator_list or node.name in SPECIAL_METHODS - {"__init__"}):
                    rows = [part for part in node.body if not isinstance(part, (ast.Expr, ast.Return))]
                    for part in rows:
                        if not isinstance(part, ast.Assign) or not isinstance(part.targets[0], ast.Name):
                            self.told(path, part, "more than names and a return")

    def test_heaps_are_called_in_functions_alone(self):
        for path, _, tree in parsed():
            called = {id(node.func) for node in ast.walk(tree) if isinstance(node, ast.Call)}
            for node in ast.walk(tree):
                if isinstance(node, ast.Name) and node.id in LIBRARY["heapq"] and id(node) not in called:
                    self.told(path, node, "a library's name that is not called")

    def test_strings_and_words(self):
        for path, text, tree in parsed():
            told = docstrings(tree)
            for node in ast.walk(tree):
                if isinstance(node, ast.Constant) and isinstance(node.value, str) and node not in told:
                    self.assertNotRegex(node.value, r"[%]|\A__|__\Z", f"{path}:{node.lineno}")
                    self.assertNotRegex(node.value, BARRED_WORDS, f"{path}:{node.lineno}")
            self.assertNotRegex(text, r"_wall|_WallAttr", path)

    def test_functions_and_classes_tell_what_they_are(self):
        for path, _, tree in parsed():
            self.assertIsNotNone(ast.get_docstring(tree), path)
            for node in tree.body:
                if isinstance(node, (ast.FunctionDef, ast.ClassDef)) and ast.get_docstring(node) is None:
                    self.told(path, node, "no docstring")


if __name__ == "__main__":
    unittest.main()
