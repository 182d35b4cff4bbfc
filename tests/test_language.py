"""The package keeps to the subset of Python that it is written in, as far as this can be read off its files."""

import ast
import builtins
import os
import re
import unittest

ROOT = os.path.join(os.path.dirname(os.path.dirname(os.path.abspath(__file__))), "doffyard")

BUILTINS = set("""len range enumerate zip min max sum abs sorted reversed int str bool bytes list tuple dict set frozenset
isinstance ord repr any all divmod Exception ValueError TypeError KeyError IndexError LookupError ZeroDivisionError
ArithmeticError OverflowError RuntimeError NotImplementedError AttributeError StopIteration NotImplemented iter next
super property staticmethod classmethod""".split())
METHODS = set("""append clear copy count endswith extend find get index insert isalnum isalpha isdigit islower isspace
isupper items join keys ljust lower lstrip partition pop remove replace reverse rfind rjust rpartition rsplit rstrip
setdefault split splitlines startswith strip update upper values zfill bit_length add discard sort translate title
isascii isdecimal encode decode __init__""".split())
WORDS = re.compile(r"\b(type|typing|typing_extensions|enum|Enum|IntEnum|StrEnum|Flag|IntFlag|Generic|Protocol|ABC"
                   r"|ABCMeta|namedtuple|NamedTuple|TypedDict|TYPE_CHECKING|abstractmethod)\b"
                   r"|dataclass|overload|contextmanager")
BARRED = set("""register mro elements open input law version_info with_traceback add_note attrgetter breakpoint builtins
compile copyright credits delattr dir eval exec exit gc getattr globals hasattr help id importlib license locals
methodcaller os quit setattr type vars sys""".split())
BARRED_ATTRIBUTES = set("""items keys values pop update append clear extend insert remove reverse setdefault sort args
encode decode hex fromhex format format_map mro register elements open input law""".split())
STATEMENTS = (ast.Global, ast.AsyncFunctionDef, ast.AsyncFor, ast.AsyncWith, ast.Await, ast.Import, ast.AnnAssign,
              ast.Div)
# what the checker needs must not stand in these
AFTER_YARDS = set("""runs stands beats events rounds spells waits counts beside keepers plain small calls
doffings""".split())
INTERFACE = {"yards": ("is_yard",), "stands": ("stands",), "errors": ("DoffError", "NoYard", "NoText"),
             "rounds": ("are_alike", "round_of"), "beside": ("beside", "without_stray", "gone_at"),
             "keepers": ("Keeper",), "plain": ("plain_worst", "fewest_hands"), "beats": ("frames_do", "hands_do"),
             "small": ("is_small", "worst_story", "played"), "calls": ("least_hands", "with_hands"),
             "checker": ("holds",), "yardtexts": ("show_yard", "read_yard"), "events": ("next_event",),
             "doffings": ("doffings", "least_doffers", "with_doffers"),
             "papers": ("paper_stands", "paper_round", "paper_unlike", "paper_plain", "paper_fewest", "paper_small",
                        "paper_calls", "paper_short", "paper_doffers"),
             "spells": ("spells",), "waits": ("breaks", "longest"), "counts": ("counts",), "desk": ("Desk",)}
METHODS_OF = {"keepers": "__init__ run come go put_stray strike yard moment stands_now".split(),
              "desk": ["__init__", "say"]}


def files():
    told = {}
    for name in sorted(os.listdir(ROOT)):
        if name != "__pycache__":
            with open(os.path.join(ROOT, name), encoding="utf-8", newline="") as file:
                told[name] = file.read()
    return told


def functions(tree):
    return [node for node in ast.walk(tree) if isinstance(node, ast.FunctionDef)]


def bound_names(tree):
    """The names that a file binds other than by imports."""
    names = [node.id for node in ast.walk(tree) if isinstance(node, ast.Name) and not isinstance(node.ctx, ast.Load)]
    names += [node.arg for node in ast.walk(tree) if isinstance(node, ast.arg)]
    names += [node.name for node in ast.walk(tree) if isinstance(node, (ast.FunctionDef, ast.ClassDef))]
    return names


class Language(unittest.TestCase):
    def setUp(self):
        self.files = files()
        self.trees = {name: ast.parse(text) for name, text in self.files.items()}

    def each(self, *kinds):
        for name, tree in self.trees.items():
            for node in ast.walk(tree):
                if isinstance(node, kinds):
                    yield f"{name}:{getattr(node, 'lineno', 0)}", node

    def test_files_and_signs(self):
        self.assertIn("__init__.py", self.files)
        for name, text in self.files.items():
            self.assertRegex(name, r"^([a-z][a-z0-9_]*|__init__|__main__)\.py$")
            self.assertTrue(all(sign == "\n" or " " <= sign <= "~" for sign in text), name)
            self.assertIsNone(WORDS.search(text), name)
            rows = text.splitlines()
            self.assertLessEqual(len(rows), 399, name)
            self.assertLessEqual(max([len(row) for row in rows], default=0), 120, name)

    def test_functions_are_small(self):
        for name, tree in self.trees.items():
            for node in functions(tree):
                self.assertLessEqual(node.end_lineno - node.lineno + 1, 40, f"{name}: {node.name}")
                self.assertEqual(node.decorator_list, [])

    def test_imports_name_the_file_that_defines(self):
        for place, node in self.each(ast.ImportFrom):
            self.assertTrue(node.module.startswith("doffyard.") and node.level == 0, place)
            tree = self.trees[node.module.split(".")[1] + ".py"]
            defined = [part.name for part in tree.body if isinstance(part, (ast.FunctionDef, ast.ClassDef))]
            defined += [part.targets[0].id for part in tree.body if isinstance(part, ast.Assign)]
            for one in node.names:
                self.assertIn(one.name, defined, place)

    def imported(self, name, seen):
        for node in self.trees[name + ".py"].body:
            if isinstance(node, ast.ImportFrom):
                other = node.module.split(".")[1]
                if other not in seen:
                    seen.add(other)
                    self.imported(other, seen)
        return seen

    def test_no_files_import_each_other(self):
        for name in self.files:
            self.assertNotIn(name[:-3], self.imported(name[:-3], set()))

    def test_what_the_checker_needs_stands_apart(self):
        for name in ("checker", "walker", "refusals", "errors"):
            self.assertFalse(self.imported(name, set()) & AFTER_YARDS, name)

    def test_the_interface_is_defined_in_its_files(self):
        for name, told in INTERFACE.items():
            body = self.trees[name + ".py"].body
            defined = [node.name for node in body if isinstance(node, (ast.FunctionDef, ast.ClassDef))]
            for one in told:
                self.assertIn(one, defined)

    def test_a_class_defines_its_own_methods(self):
        for name, methods in METHODS_OF.items():
            told = [node for node in self.trees[name + ".py"].body if isinstance(node, ast.ClassDef)]
            self.assertEqual(len(told), 1)
            defined = [node.name for node in told[0].body if isinstance(node, ast.FunctionDef)]
            self.assertLessEqual(set(methods), set(defined))

    def test_statements_and_numbers(self):
        for place, _ in self.each(*STATEMENTS):
            self.fail(place)
        for place, node in self.each(ast.Constant):
            self.assertNotIsInstance(node.value, (float, complex), place)
            if isinstance(node.value, str):
                self.assertNotIn("%", node.value, place)
        for place, node in self.each(ast.BinOp):
            if isinstance(node.op, ast.Pow):
                self.assertIsInstance(node.right, ast.Constant, place)

    def test_names(self):
        for name, tree in self.trees.items():
            imports = {one.name for node in ast.walk(tree) if isinstance(node, ast.ImportFrom) for one in node.names}
            classes = {node.name for node in tree.body if isinstance(node, ast.ClassDef)}
            for bound in bound_names(tree):
                if bound not in classes:
                    self.assertNotIn(bound, imports, name)
                if bound == "__init__":
                    continue
                self.assertFalse(bound.startswith("_"), (name, bound))
                self.assertNotIn(bound, BARRED, name)
                self.assertFalse(hasattr(builtins, bound), (name, bound))

    def test_builtins(self):
        for place, node in self.each(ast.Name):
            if hasattr(builtins, node.id):
                self.assertIn(node.id, BUILTINS, place)

    def test_is_stands_by_none_and_truths(self):
        for place, node in self.each(ast.Compare):
            for sign, right in zip(node.ops, node.comparators):
                if isinstance(sign, (ast.Is, ast.IsNot)):
                    self.assertIsInstance(right, ast.Constant, place)
                    self.assertIn(right.value, (None, True, False), place)

    def test_methods_and_attributes(self):
        methods, stored = set(), set()
        for _, node in self.each(ast.ClassDef):
            methods |= {part.name for part in node.body if isinstance(part, ast.FunctionDef)}
        for place, node in self.each(ast.Attribute):
            if isinstance(node.ctx, ast.Store):
                stored.add(node.attr)
                self.assertIsInstance(node.value, ast.Name, place)
        self.assertEqual(methods & stored, set())
        self.assertEqual(stored & BARRED_ATTRIBUTES, set())
        for place, node in self.each(ast.Attribute):
            self.assertIn(node.attr, methods | stored | METHODS, place)

    def test_errors_are_made_on_the_spot_and_caught_by_name(self):
        for place, node in self.each(ast.Raise):
            self.assertTrue(node.exc is None or isinstance(node.exc, ast.Call), place)
        for place, node in self.each(ast.ExceptHandler):
            self.assertIsNotNone(node.type, place)

    def test_module_level(self):
        for name, tree in self.trees.items():
            for node in tree.body:
                text = isinstance(node, ast.Expr) and isinstance(node.value, ast.Constant)
                kinds = (ast.ImportFrom, ast.FunctionDef, ast.ClassDef, ast.Assign)
                self.assertTrue(text or isinstance(node, kinds), f"{name}:{node.lineno}")


if __name__ == "__main__":
    unittest.main()
