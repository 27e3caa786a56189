"""The package's files held against those rules of LANGUAGE.md that are easily seen in their trees, not against all."""

import ast
import builtins
import re
import unittest
from pathlib import Path

PACKAGE = Path(__file__).resolve().parent.parent / "toggleclock"
BUILT_IN = set("""len range enumerate zip min max sum abs sorted reversed int str bool list tuple dict set frozenset
    isinstance ord repr any all divmod Exception ValueError TypeError KeyError IndexError LookupError
    ZeroDivisionError ArithmeticError OverflowError RuntimeError NotImplementedError AttributeError
    StopIteration""".split())
METHODS = set("""append clear copy count endswith extend find get index insert isalnum isalpha isdigit islower isspace
    isupper items join keys ljust lower lstrip partition pop remove replace reverse rfind rjust rpartition rsplit
    rstrip setdefault split splitlines startswith strip update upper values zfill bit_length""".split())
SPECIAL = {"__init__", "__eq__", "__repr__", "__str__", "__len__"}
STATEMENTS = (ast.FunctionDef, ast.ClassDef, ast.Assign, ast.AugAssign, ast.If, ast.While, ast.For, ast.Return,
              ast.Break, ast.Continue, ast.Pass, ast.Raise, ast.Try, ast.Expr, ast.ImportFrom)
EXPRESSIONS = (ast.Constant, ast.List, ast.Tuple, ast.Dict, ast.Set, ast.BinOp, ast.UnaryOp, ast.BoolOp, ast.Compare,
               ast.IfExp, ast.Call, ast.Attribute, ast.Subscript, ast.Slice, ast.ListComp, ast.JoinedStr,
               ast.FormattedValue, ast.Name, ast.Lambda)
BARRED_WORDS = re.compile(
    r"\b(type|typing|typing_extensions|enum|Enum|IntEnum|StrEnum|Flag|IntFlag|Generic|Protocol|ABC|ABCMeta|namedtuple|"
    r"NamedTuple|TypedDict|TYPE_CHECKING|abstractmethod)\b|dataclass|overload|contextmanager")
BARRED_NAMES = set("register mro elements open input version_info with_traceback add_note format format_map".split())

# L15, L18, L23, L24 and L28 are held more narrowly than they stand: what the package has no need of is left out.
WALKED_AT_ONCE = set("zip enumerate reversed range items keys values".split())
TAKES_WALKED = set("list tuple dict sorted sum any all enumerate zip".split())


def called(node):
    return node.func.id if isinstance(node.func, ast.Name) else getattr(node.func, "attr", "")


def package_files():
    return sorted(path for path in PACKAGE.rglob("*") if "__pycache__" not in path.parts)


def drawn_from(tree):
    return [node.module for node in ast.walk(tree) if isinstance(node, ast.ImportFrom)]


def names_bound(tree):
    """Every name that the file gives to something."""
    found = []
    for node in ast.walk(tree):
        if isinstance(node, (ast.FunctionDef, ast.ClassDef)):
            found.append(node.name)
        elif isinstance(node, ast.arg):
            found.append(node.arg)
        elif isinstance(node, ast.Name) and isinstance(node.ctx, ast.Store):
            found.append(node.id)
        elif isinstance(node, ast.Attribute) and isinstance(node.ctx, ast.Store):
            found.append(node.attr)
        elif isinstance(node, ast.alias):
            found.append(node.asname or node.name)
    return found


class LanguageTest(unittest.TestCase):
    def setUp(self):
        self.texts = {path.stem: path.read_text(encoding="utf-8") for path in package_files()}
        self.trees = {stem: ast.parse(text) for stem, text in self.texts.items()}
        self.nodes = [(stem, node) for stem, tree in self.trees.items() for node in ast.walk(tree)]

    def hold(self, fine, rule, stem, node):
        self.assertTrue(fine, f"{rule}: {stem}.py, row {getattr(node, 'lineno', 0)}")

    def test_files(self):
        self.assertIn("__init__", self.texts)
        for path in package_files():
            self.assertTrue(path.is_file() and re.fullmatch(r"[a-z_][a-z0-9_]*\.py", path.name), f"L1, L14: {path}")

    def test_signs_sizes_and_words(self):
        for stem, text in self.texts.items():
            self.assertTrue(all(sign == "\n" or " " <= sign <= "~" for sign in text), f"L14: {stem}")
            self.assertLessEqual(len(text.splitlines()), 400, f"L10: {stem}")
            self.assertTrue(all(len(row) <= 120 for row in text.splitlines()), f"L10: {stem}")
            self.assertIsNone(BARRED_WORDS.search(text), f"L17: {stem}")

    def test_imports(self):
        for stem, tree in self.trees.items():
            for module in drawn_from(tree):
                self.assertRegex(module, r"^toggleclock\.[a-z]\w*$", f"L2, L16: {stem}")
        self.assertEqual(drawn_from(self.trees["__init__"]), [], "L16")
        for stem, node in self.nodes:
            if isinstance(node, ast.ImportFrom):
                defined = names_bound(self.trees[node.module.split(".")[1]])
                self.hold(all(one.name in defined and one.asname is None for one in node.names), "L16", stem, node)

    def test_no_files_draw_from_one_another(self):
        left = {stem: {module.split(".")[1] for module in drawn_from(tree)} for stem, tree in self.trees.items()}
        while left:
            free = [stem for stem, drawn in left.items() if not drawn & set(left)]
            self.assertTrue(free, f"L16: {sorted(left)}")
            left = {stem: drawn for stem, drawn in left.items() if stem not in free}

    def test_the_top_of_a_file(self):
        for stem, tree in self.trees.items():
            bound = []
            for at, node in enumerate(tree.body):
                docstring = at == 0 and isinstance(node, ast.Expr) and isinstance(node.value, ast.Constant)
                kinds = (ast.ImportFrom, ast.FunctionDef, ast.ClassDef, ast.Assign)
                self.hold(docstring or isinstance(node, kinds), "L3", stem, node)
                bound += names_bound(node) if isinstance(node, (ast.ImportFrom, ast.Assign)) else []
                bound += [node.name] if isinstance(node, (ast.FunctionDef, ast.ClassDef)) else []
            self.assertEqual(len(bound), len(set(bound)), f"L15: {stem}")

    def test_functions_and_classes(self):
        for stem, node in self.nodes:
            if isinstance(node, ast.FunctionDef):
                plain = node.args
                stars = plain.vararg or plain.kwarg or plain.kwonlyargs or plain.posonlyargs
                self.hold(not stars and not node.decorator_list, "L4", stem, node)
                self.hold(node.end_lineno - node.lineno < 40, "L10", stem, node)
            if isinstance(node, ast.ClassDef):
                self.hold(len(node.bases) <= 1 and not node.keywords and not node.decorator_list, "L5", stem, node)
                self.hold(all(isinstance(part, (ast.FunctionDef, ast.Pass)) for part in node.body), "L5", stem, node)
                self.hold(node in self.trees[stem].body, "L15", stem, node)

    def test_statements(self):
        for stem, node in self.nodes:
            if isinstance(node, ast.stmt):
                self.hold(isinstance(node, STATEMENTS), "L6", stem, node)
            if isinstance(node, ast.Assign):
                self.hold(len(node.targets) == 1, "L6", stem, node)
            if isinstance(node, (ast.For, ast.While)):
                self.hold(not node.orelse, "L6", stem, node)
            if isinstance(node, ast.Expr):
                first = node is self.trees[stem].body[0]
                self.hold(first or isinstance(node.value, ast.Call), "L6", stem, node)
            if isinstance(node, ast.Raise):
                self.hold(isinstance(node.exc, ast.Call), "L19", stem, node)

    def test_expressions(self):
        for stem, node in self.nodes:
            if isinstance(node, ast.expr):
                self.hold(isinstance(node, EXPRESSIONS), "L7", stem, node)
            if isinstance(node, ast.Constant):
                self.hold(node.value is None or isinstance(node.value, (bool, int, str)), "L7", stem, node)
                self.hold("%" not in str(node.value), "L27", stem, node)
            if isinstance(node, ast.BinOp):
                self.hold(not isinstance(node.op, (ast.Div, ast.MatMult)), "L7", stem, node)
                written = isinstance(node.right, ast.Constant)
                self.hold(not isinstance(node.op, ast.Pow) or written, "L27", stem, node)
            if isinstance(node, ast.ListComp):
                self.hold(len(node.generators) == 1 and len(node.generators[0].ifs) <= 1, "L7", stem, node)
            if isinstance(node, ast.FormattedValue):
                self.hold(isinstance(node.value, ast.Name) and node.format_spec is None, "L7", stem, node)
            if isinstance(node, ast.Compare) and any(isinstance(op, (ast.Is, ast.IsNot)) for op in node.ops):
                sides = [node.left] + node.comparators
                plain = [side for side in sides if isinstance(side, ast.Constant) and not isinstance(side.value, str)]
                self.hold(plain, "L20", stem, node)

    def test_names(self):
        for stem, node in self.nodes:
            if isinstance(node, ast.Name) and isinstance(node.ctx, ast.Load) and node.id in vars(builtins):
                self.hold(node.id in BUILT_IN, "L8", stem, node)
        for stem, tree in self.trees.items():
            for name in names_bound(tree):
                self.assertTrue(name in SPECIAL or re.fullmatch(r"[A-Za-z]\w*", name, re.ASCII), f"L12: {stem} {name}")
                self.assertNotIn(name, vars(builtins), f"L15: {stem} {name}")
                self.assertNotIn(name, BARRED_NAMES, f"L17: {stem} {name}")

    def test_methods_and_values(self):
        classes = [node for stem, node in self.nodes if isinstance(node, ast.ClassDef)]
        own = [part.name for node in classes for part in node.body if isinstance(part, ast.FunctionDef)]
        kept = {node.attr for stem, node in self.nodes
                if isinstance(node, ast.Attribute) and isinstance(node.ctx, ast.Store)}
        self.assertFalse(kept & set(own), "L18")
        for stem, node in self.nodes:
            if isinstance(node, ast.Call) and isinstance(node.func, ast.Attribute):
                self.hold(node.func.attr in METHODS or node.func.attr in own, "L25", stem, node)
        taken = {name for value in ("", 0, [], {}, set(), b"") for name in dir(value)}
        for name in set(own) - SPECIAL - METHODS - {"add", "discard"}:
            self.assertNotIn(name, taken, "L26")
        for name in kept - set("count index title find get join lower upper split strip copy add".split()):
            self.assertNotIn(name, taken | {"args"}, "L26")

    def test_no_local_is_called_like_an_import_or_a_class(self):
        for stem, tree in self.trees.items():
            taken = {one.name for node in tree.body if isinstance(node, ast.ImportFrom) for one in node.names}
            taken |= {node.name for node in tree.body if isinstance(node, ast.ClassDef)}
            for function in [node for node in ast.walk(tree) if isinstance(node, ast.FunctionDef)]:
                bound = [node.arg for node in ast.walk(function) if isinstance(node, ast.arg)]
                bound += [node.id for node in ast.walk(function)
                          if isinstance(node, ast.Name) and isinstance(node.ctx, ast.Store)]
                self.hold(not taken & set(bound), "L15", stem, function)

    def test_what_a_file_keeps_at_its_top_is_only_read(self):
        parents = {inner: node for stem, node in self.nodes for inner in ast.iter_child_nodes(node)}
        for stem, tree in self.trees.items():
            kept = {node.targets[0].id for node in tree.body
                    if isinstance(node, ast.Assign) and isinstance(node.value, (ast.List, ast.Dict))}
            for node in ast.walk(tree):
                if isinstance(node, ast.Name) and isinstance(node.ctx, ast.Load) and node.id in kept:
                    around = parents[node]
                    indexed = isinstance(around, ast.Subscript) and isinstance(around.ctx, ast.Load)
                    asked = isinstance(around, ast.Compare) and isinstance(around.ops[0], ast.In)
                    self.hold(indexed or asked, "L15", stem, node)

    def test_classes_are_called_or_stand_under_one_another(self):
        names = {node.name for stem, node in self.nodes if isinstance(node, ast.ClassDef)}
        parents = {inner: node for stem, node in self.nodes for inner in ast.iter_child_nodes(node)}
        for stem, node in self.nodes:
            if isinstance(node, ast.Name) and node.id in names:
                around = parents[node]
                called_here = isinstance(around, ast.Call) and around.func is node
                self.hold(called_here or isinstance(around, (ast.ClassDef, ast.ExceptHandler)), "L18", stem, node)

    def test_no_annotations(self):
        for stem, node in self.nodes:
            if isinstance(node, ast.FunctionDef):
                told = [node.returns] + [one.annotation for one in node.args.args]
                self.hold(not any(told), "L21", stem, node)

    def test_walked_at_once(self):
        parents = {inner: node for stem, node in self.nodes for inner in ast.iter_child_nodes(node)}
        for stem, node in self.nodes:
            if isinstance(node, ast.Call) and called(node) in WALKED_AT_ONCE:
                around = parents[node]
                looped = isinstance(around, (ast.For, ast.comprehension)) and around.iter is node
                taken = isinstance(around, ast.Call) and called(around) in TAKES_WALKED and around.args[0] is node
                self.hold(looped or taken, "L23", stem, node)

    def test_no_sets_are_made(self):
        for stem, node in self.nodes:
            self.hold(not isinstance(node, ast.Set), "L24", stem, node)
            if isinstance(node, ast.Call):
                self.hold(called(node) not in ("set", "frozenset"), "L24", stem, node)

    def test_methods_with_two_underscores(self):
        for stem, node in self.nodes:
            if isinstance(node, ast.FunctionDef) and node.name.startswith("__"):
                self.hold(node.name == "__init__", "L28", stem, node)
                self.hold(not any(isinstance(part, ast.Return) for part in ast.walk(node)), "L28", stem, node)


if __name__ == "__main__":
    unittest.main()
