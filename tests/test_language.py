"""The rules of ../shared/LANGUAGE.md that can be seen file by file; the others are for the reader."""

import ast
import builtins
import re
import unittest
from pathlib import Path

PACKAGE = Path(__file__).resolve().parent.parent / "totalround"
FILES = sorted(PACKAGE.glob("*.py"))

STATEMENTS = (ast.Assign, ast.AugAssign, ast.AnnAssign, ast.If, ast.While, ast.For, ast.Return, ast.Break,
              ast.Continue, ast.Pass, ast.Raise, ast.Assert, ast.Delete, ast.Nonlocal, ast.Match, ast.With, ast.Try,
              ast.Expr, ast.FunctionDef, ast.ClassDef, ast.ImportFrom)
BUILTINS = set("""len range enumerate zip min max sum abs sorted reversed int str bool list tuple dict set isinstance
    ord repr any all divmod pow iter next map super bytes property staticmethod classmethod Exception ValueError
    TypeError KeyError IndexError LookupError ZeroDivisionError ArithmeticError OverflowError RuntimeError
    NotImplementedError AttributeError StopIteration NotImplemented""".split())
LIBRARY = {"heapq", "math", "itertools", "collections"}
METHODS = set("""append clear copy count endswith extend find get index insert isalnum isalpha isdigit islower isspace
    isupper items join keys ljust lower lstrip partition pop remove replace reverse rfind rjust rpartition rsplit rstrip
    setdefault split splitlines startswith strip update upper values zfill bit_length title capitalize swapcase casefold
    center expandtabs removeprefix removesuffix rindex isascii isdecimal isnumeric istitle isidentifier isprintable
    translate sort add discard""".split())
NEVER = set("register mro elements open input law version_info with_traceback add_note".split())
# Words that may not occur outside of comments and docstrings.
WORDS = re.compile(r"\b(type|typing|typing_extensions|enum|Enum|IntEnum|StrEnum|Flag|IntFlag|Generic|Protocol|ABC|ABCMeta"
                   r"|namedtuple|NamedTuple|TypedDict|TYPE_CHECKING|abstractmethod)\b|dataclass|overload|contextmanager")
TAKES_A_LIST = {"any", "all", "min", "max", "sum", "sorted"}


def is_docstring(node, parent):
    return isinstance(node, ast.Expr) and getattr(parent, "body", None) and parent.body[0] is node


def bound_names(tree):
    """Every name that a file binds anywhere, attributes aside."""
    for node in ast.walk(tree):
        if isinstance(node, ast.Name) and isinstance(node.ctx, ast.Store):
            yield node.id
        elif isinstance(node, ast.arg):
            yield node.arg
        elif isinstance(node, (ast.FunctionDef, ast.ClassDef)):
            yield node.name
        elif isinstance(node, ast.alias):
            yield node.asname or node.name


class Language(unittest.TestCase):
    def each_tree(self):
        for file in FILES:
            yield file, ast.parse(file.read_text(encoding="utf-8"))

    def each_node(self, *kinds):
        for file, tree in self.each_tree():
            for node in ast.walk(tree):
                if isinstance(node, kinds):
                    yield f"{file.name}:{getattr(node, 'lineno', 0)}", node

    def test_there_is_something_to_look_at(self):
        self.assertIn(PACKAGE / "__init__.py", FILES)
        self.assertLess(len(FILES), 100)

    def test_the_folder_holds_plain_files_alone(self):
        for path in PACKAGE.iterdir():
            if path.name != "__pycache__":
                self.assertRegex(path.name, r"^(__init__|[a-z][a-z0-9_]*)\.py$")

    def test_signs_and_sizes(self):
        for file in FILES:
            text = file.read_text(encoding="utf-8")
            self.assertRegex(text, r"\A[ -~\n]*\Z", file.name)
            self.assertLessEqual(len(text.splitlines()), 399, file.name)
            self.assertLessEqual(max(map(len, text.splitlines())), 120, file.name)
        for place, node in self.each_node(ast.FunctionDef):
            self.assertLessEqual(node.end_lineno - node.lineno + 1, 40, place)

    def test_imports(self):
        self.assertEqual([place for place, _ in self.each_node(ast.Import)], [])
        for place, node in self.each_node(ast.ImportFrom):
            self.assertEqual(node.level, 0, place)
            if node.module in LIBRARY:
                continue
            package, *rest = node.module.split(".")
            self.assertEqual((package, len(rest)), ("totalround", 1), place)
            own = ast.parse((PACKAGE / f"{rest[0]}.py").read_text(encoding="utf-8")).body
            defined = [top.name for top in own if isinstance(top, (ast.FunctionDef, ast.ClassDef))]
            defined += [top.targets[0].id for top in own if isinstance(top, ast.Assign)]
            for alias in node.names:
                self.assertIsNone(alias.asname, place)
                self.assertIn(alias.name, defined, place)

    def test_no_file_imports_in_a_ring(self):
        ahead = {file.stem: [node.module.split(".")[-1] for node in ast.walk(tree) if isinstance(node, ast.ImportFrom)]
                 for file, tree in self.each_tree()}
        while ahead:
            free = [name for name, needs in ahead.items() if not any(need in ahead for need in needs)]
            self.assertTrue(free, ahead)
            ahead = {name: needs for name, needs in ahead.items() if name not in free}

    def test_module_level(self):
        for file, tree in self.each_tree():
            names = []
            for node in tree.body:
                if isinstance(node, ast.Assign):
                    self.assertEqual([type(target) for target in node.targets], [ast.Name], file.name)
                    names.append(node.targets[0].id)
                elif isinstance(node, (ast.FunctionDef, ast.ClassDef)):
                    names.append(node.name)
                elif isinstance(node, ast.ImportFrom):
                    names += [alias.name for alias in node.names]
                else:
                    self.assertTrue(is_docstring(node, tree), f"{file.name}:{node.lineno}")
            self.assertEqual(len(set(names)), len(names), file.name)

    def test_statements(self):
        for place, node in self.each_node(ast.stmt):
            self.assertIsInstance(node, STATEMENTS, place)
        for place, node in self.each_node(ast.FunctionDef):
            self.assertEqual(node.decorator_list, [], place)
        for place, node in self.each_node(ast.ClassDef):
            self.assertEqual((node.decorator_list, node.keywords), ([], []), place)

    def test_values(self):
        for place, node in self.each_node(ast.Constant):
            self.assertNotIsInstance(node.value, (float, complex), place)
            if isinstance(node.value, str):
                self.assertNotIn("%", node.value, place)
        for place, node in self.each_node(ast.BinOp):
            self.assertNotIsInstance(node.op, (ast.Div, ast.MatMult), place)

    def test_builtins_and_names(self):
        known = set(dir(builtins))
        for file, tree in self.each_tree():
            bound = set(bound_names(tree))
            self.assertEqual(bound & (known | NEVER), set(), file.name)
            self.assertEqual([name for name in bound if not re.fullmatch("_?[A-Za-z][A-Za-z0-9_]*|__[a-z]+__|_", name)], [])
            read = {node.id for node in ast.walk(tree) if isinstance(node, ast.Name)}
            self.assertEqual((read & known) - BUILTINS, set(), file.name)

    def test_no_local_name_is_that_of_a_class_or_an_import(self):
        for file, tree in self.each_tree():
            held = {top.name for top in tree.body if isinstance(top, ast.ClassDef)}
            held |= {alias.name for top in tree.body if isinstance(top, ast.ImportFrom) for alias in top.names}
            for node in ast.walk(tree):
                if isinstance(node, ast.FunctionDef):
                    self.assertEqual(set(bound_names(node)) & held, set(), f"{file.name}:{node.lineno}")

    def test_methods(self):
        own = {node.name for _, node in self.each_node(ast.FunctionDef)}
        for place, node in self.each_node(ast.Call):
            if isinstance(node.func, ast.Attribute):
                self.assertIn(node.func.attr, METHODS | own, place)

    def test_a_list_is_handed_to_any_and_the_like(self):
        for place, node in self.each_node(ast.Call):
            if isinstance(node.func, ast.Name) and node.func.id in TAKES_A_LIST:
                for argument in node.args:
                    self.assertNotIsInstance(argument, ast.GeneratorExp, place)

    def test_is_stands_beside_none_and_truths(self):
        for place, node in self.each_node(ast.Compare):
            if any(isinstance(op, (ast.Is, ast.IsNot)) for op in node.ops):
                sides = [node.left, *node.comparators]
                self.assertTrue(any(isinstance(side, ast.Constant) and side.value in (None, True, False)
                                    for side in sides), place)

    def test_words(self):
        for file, tree in self.each_tree():
            for node in ast.walk(tree):
                body = getattr(node, "body", None)
                if isinstance(body, list) and isinstance(node, (ast.Module, ast.ClassDef, ast.FunctionDef)):
                    if ast.get_docstring(node) is not None:
                        node.body = body[1:] or [ast.Pass()]
            self.assertIsNone(WORDS.search(ast.unparse(tree)), file.name)


if __name__ == "__main__":
    unittest.main()
