"""The package keeps to its small part of Python: what of the rules can be read off the files."""

import ast
import builtins
import pathlib
import re
import unittest

PACKAGE = pathlib.Path(__file__).resolve().parent.parent / "backhead"

NODES = """
    Module FunctionDef ClassDef Return Assign AugAssign For While If Raise Try ExceptHandler Import ImportFrom alias
    Expr Pass Break Continue BoolOp And Or BinOp Add Sub Mult FloorDiv Mod Pow BitAnd BitOr BitXor LShift RShift
    UnaryOp Not USub Invert IfExp Dict List Tuple ListComp comprehension Compare Eq NotEq Lt LtE Gt GtE Is IsNot In
    NotIn Call Attribute Subscript Slice Name Load Store Constant JoinedStr FormattedValue Lambda arguments arg keyword
""".split()

OWN_NAMES = """
    len range enumerate zip min max sum abs sorted reversed int str bool list tuple dict set frozenset isinstance ord
    repr any all divmod ValueError KeyError IndexError LookupError ZeroDivisionError
""".split()

METHODS = """
    append clear copy count endswith extend find get index insert isalnum isalpha isdigit islower isspace isupper
    items join keys ljust lower lstrip partition pop remove replace reverse rfind rjust rpartition rsplit rstrip
    setdefault split splitlines startswith strip update upper values zfill bit_length
""".split()

WORDS = """
    type typing typing_extensions enum Enum IntEnum StrEnum Flag IntFlag Generic Protocol ABC ABCMeta namedtuple
    NamedTuple TypedDict TYPE_CHECKING abstractmethod
""".split()


def files():
    return sorted(PACKAGE.glob("*.py"))


def parsed():
    texts = [(path, path.read_text(encoding="utf-8")) for path in files()]
    return [(path, text, ast.parse(text, path.name)) for path, text in texts]


def nodes(tree, *kinds):
    return [node for node in ast.walk(tree) if isinstance(node, kinds)]


def bound_names(tree):
    names = [node.arg for node in nodes(tree, ast.arg)]
    names += [node.id for node in nodes(tree, ast.Name) if isinstance(node.ctx, ast.Store)]
    return names


class Language(unittest.TestCase):

    def test_files(self):
        self.assertIn(PACKAGE / "__init__.py", files())
        others = [path.name for path in PACKAGE.iterdir() if path.name != "__pycache__" and path not in files()]
        self.assertEqual(others, [])
        for path in files():
            self.assertRegex(path.stem, r"\A(__init__|[a-z][a-z0-9_]*)\Z")

    def test_signs_and_words(self):
        for path, text, tree in parsed():
            self.assertTrue(all(sign == "\n" or " " <= sign <= "~" for sign in text))
            self.assertEqual([word for word in re.findall(r"\w+", text) if word in WORDS], [], path)
            self.assertNotRegex(text, "dataclass|overload|contextmanager")

    def test_sizes(self):
        for path, text, tree in parsed():
            lines = text.split("\n")
            self.assertLessEqual(len(lines), 400)
            self.assertLessEqual(max(len(line) for line in lines), 120)
            for function in nodes(tree, ast.FunctionDef):
                self.assertLessEqual(function.end_lineno - function.lineno + 1, 40, function.name)

    def test_forms(self):
        for path, text, tree in parsed():
            self.assertEqual([type(node).__name__ for node in ast.walk(tree) if type(node).__name__ not in NODES], [],
                             path)
            for node in nodes(tree, ast.Assign):
                self.assertEqual(len(node.targets), 1)
            for node in nodes(tree, ast.For, ast.While):
                self.assertEqual(node.orelse, [])
            for node in nodes(tree, ast.ListComp):
                self.assertEqual(len(node.generators), 1)
                self.assertLessEqual(len(node.generators[0].ifs), 1)
            for node in nodes(tree, ast.Constant):
                self.assertIsInstance(node.value, (int, str, type(None)))
            for node in nodes(tree, ast.FunctionDef, ast.ClassDef):
                self.assertEqual(node.decorator_list, [])

    def test_imports(self):
        drawn = {}
        for path, text, tree in parsed():
            self.assertEqual(nodes(tree, ast.Import), [])
            drawn[path.stem] = []
            for node in nodes(tree, ast.ImportFrom):
                package, stem = node.module.split(".")
                self.assertEqual((package, node.level), ("backhead", 0))
                drawn[path.stem].append(stem)
                source = ast.parse((PACKAGE / (stem + ".py")).read_text(encoding="utf-8"))
                made = [part.name for part in source.body if isinstance(part, (ast.FunctionDef, ast.ClassDef))]
                made += [part.targets[0].id for part in source.body if isinstance(part, ast.Assign)]
                self.assertEqual([name.name for name in node.names if name.name not in made], [])
        while drawn:
            free = [stem for stem in drawn if not any(other in drawn for other in drawn[stem])]
            self.assertNotEqual(free, [], "files that draw from one another")
            drawn = {stem: others for stem, others in drawn.items() if stem not in free}

    def test_names(self):
        for path, text, tree in parsed():
            used = [node.id for node in nodes(tree, ast.Name) if isinstance(node.ctx, ast.Load)]
            self.assertEqual([name for name in used if hasattr(builtins, name) and name not in OWN_NAMES], [], path)
            taken = [name.name for node in nodes(tree, ast.ImportFrom) for name in node.names]
            taken += [node.name for node in nodes(tree, ast.ClassDef)]
            for name in bound_names(tree):
                self.assertFalse(hasattr(builtins, name), name)
                self.assertNotIn(name, taken)
                self.assertFalse(name.startswith("_"), name)

    def test_methods(self):
        own = []
        for path, text, tree in parsed():
            own += [node.name for kind in nodes(tree, ast.ClassDef) for node in nodes(kind, ast.FunctionDef)]
            own += [node.attr for node in nodes(tree, ast.Attribute) if isinstance(node.ctx, ast.Store)]
        for path, text, tree in parsed():
            asked = [node.attr for node in nodes(tree, ast.Attribute)]
            self.assertEqual([name for name in asked if name not in own and name not in METHODS], [], path)

    def test_is_beside_none_true_and_false_alone(self):
        for path, text, tree in parsed():
            for node in nodes(tree, ast.Compare):
                for kind, side in zip(node.ops, node.comparators):
                    if isinstance(kind, (ast.Is, ast.IsNot)):
                        self.assertIn(getattr(side, "value", 0), (None, True, False))


if __name__ == "__main__":
    unittest.main()
