"""The rules of the language subset, as far as they can be told from the code alone.

Some checks are narrower than the rules: what the package does not use is not let in.
"""

import ast
import builtins
import keyword
import pathlib
import re
import unittest
import warnings

ROOT = pathlib.Path(__file__).resolve().parent.parent / "truenames"
FILES = sorted(ROOT.rglob("*.py"))
LIBRARY = {"math": {"gcd", "lcm", "isqrt", "comb", "perm", "factorial"},
           "itertools": {"product", "combinations", "permutations"},
           "heapq": {"heappush", "heappop", "heapify", "heapreplace", "heappushpop"}}
BUILTINS = set(
    "len range enumerate zip min max sum abs sorted reversed int str bool list tuple dict set isinstance ord repr "
    "any all divmod Exception ValueError TypeError KeyError IndexError LookupError ZeroDivisionError "
    "ArithmeticError OverflowError RuntimeError NotImplementedError NotImplemented super property classmethod "
    "staticmethod".split()
)
METHODS = set(
    "append clear copy count endswith extend find get index insert isalnum isalpha isdigit islower isspace isupper "
    "items join keys ljust lower lstrip partition pop remove replace reverse rfind rjust rpartition rsplit rstrip "
    "setdefault split splitlines startswith strip update upper values zfill bit_length".split()
)
DOUBLE = {"__init__", "__eq__", "__repr__", "__str__", "__len__", "__mul__", "__invert__", "__contains__"}
CHANGING = ("append", "extend", "pop", "insert", "clear", "update", "remove", "reverse", "setdefault")
BARRED = set(
    "register mro elements open input law version_info with_traceback add_note attrgetter breakpoint builtins compile "
    "copyright credits delattr dir eval exec exit gc getattr globals hasattr help id importlib license locals "
    "methodcaller os quit setattr type vars sys typing enum".split()
)
WORDS = re.compile(
    r"\b(type|typing|typing_extensions|enum|Enum|IntEnum|StrEnum|Flag|IntFlag|Generic|Protocol|ABC|ABCMeta|namedtuple"
    r"|NamedTuple|TypedDict|TYPE_CHECKING|abstractmethod)\b|dataclass|overload|contextmanager|_wall|_WallAttr"
)
STATEMENTS = (
    ast.Assign, ast.AugAssign, ast.If, ast.While, ast.For, ast.Return, ast.Break, ast.Continue, ast.Pass, ast.Raise,
    ast.Expr, ast.FunctionDef, ast.ClassDef, ast.ImportFrom, ast.Try,
)
EXPRESSIONS = (
    ast.BoolOp, ast.BinOp, ast.UnaryOp, ast.IfExp, ast.Dict, ast.ListComp, ast.DictComp, ast.Compare, ast.Call,
    ast.JoinedStr, ast.FormattedValue, ast.Constant, ast.Attribute, ast.Subscript, ast.Name, ast.List, ast.Tuple,
    ast.Slice, ast.Yield, ast.YieldFrom,
)


def read_tree(path):
    return ast.parse(path.read_text(encoding="utf-8"))


def module_name(path):
    parts = path.relative_to(ROOT.parent).with_suffix("").parts
    return ".".join(parts[:-1] if parts[-1] == "__init__" else parts)


def nodes(kind):
    """All nodes of a kind in the package, each with the place at which it stands."""
    for path in FILES:
        for node in ast.walk(read_tree(path)):
            if isinstance(node, kind):
                yield f"{path.name}:{getattr(node, 'lineno', 0)}", node


def bound_names(tree):
    """The names that functions and modules bind, each with its place."""
    for node in ast.walk(tree):
        if isinstance(node, ast.Name) and isinstance(node.ctx, ast.Store):
            yield node.id
        elif isinstance(node, ast.arg):
            yield node.arg


def called_names(node):
    """The names of what a function calls, of methods too."""
    calls = [part.func for part in ast.walk(node) if isinstance(part, ast.Call)]
    return [func.id if isinstance(func, ast.Name) else func.attr for func in calls]


def changed_by(node):
    """What a function changes that it did not make itself."""
    made = [
        part.targets[0].id for part in ast.walk(node)
        if isinstance(part, ast.Assign) and isinstance(part.targets[0], ast.Name)
        and isinstance(part.value, (ast.List, ast.Dict, ast.ListComp))
    ]
    changed = [
        ast.unparse(part.value) for part in ast.walk(node)
        if isinstance(part, (ast.Attribute, ast.Subscript)) and isinstance(part.ctx, ast.Store)
    ]
    changed += [
        ast.unparse(part.func.value) for part in ast.walk(node)
        if isinstance(part, ast.Call) and isinstance(part.func, ast.Attribute) and part.func.attr in CHANGING
    ]
    return [name for name in changed if name not in made]


class TestFiles(unittest.TestCase):

    def test_folders(self):
        for path in ROOT.rglob("*"):
            if "__pycache__" in path.parts:
                continue
            self.assertTrue(path.is_dir() or path.suffix == ".py", path)
            self.assertRegex(path.stem, r"^([a-z][a-z0-9_]*|__init__|__main__)$")
            self.assertNotIn(path.stem, dir(builtins))
            self.assertFalse(path.stem.startswith("test") or path.stem in ("site", "conftest"))
            if path.is_dir():
                self.assertTrue((path / "__init__.py").is_file(), path)
                self.assertFalse(path.with_suffix(".py").exists(), path)
        self.assertLessEqual(len(FILES), 100)

    def test_lines(self):
        for path in FILES:
            text = path.read_text(encoding="utf-8")
            self.assertTrue(all(character == "\n" or " " <= character <= "~" for character in text), path)
            lines = text.split("\n")
            self.assertLessEqual(len(lines), 400, path)
            self.assertLessEqual(max(map(len, lines)), 120, path)

    def test_no_warnings(self):
        for path in FILES:
            with warnings.catch_warnings():
                warnings.simplefilter("error")
                compile(path.read_text(encoding="utf-8"), str(path), "exec")

    def test_functions_are_short(self):
        for place, node in nodes(ast.FunctionDef):
            first = min([node.lineno] + [decorator.lineno for decorator in node.decorator_list])
            self.assertLessEqual(node.end_lineno - first + 1, 40, place)

    def test_words(self):
        for path in FILES:
            code = [line for line in path.read_text(encoding="utf-8").split("\n") if not line.strip().startswith("#")]
            self.assertIsNone(WORDS.search("\n".join(code)), path)


class TestImports(unittest.TestCase):

    def test_imports(self):
        names = {module_name(path): path for path in FILES}
        for path in FILES:
            tree = read_tree(path)
            ends = [index for index, node in enumerate(tree.body) if isinstance(node, ast.ImportFrom)]
            begins = [index for index, node in enumerate(tree.body) if not isinstance(node, (ast.ImportFrom, ast.Expr))]
            self.assertTrue(not ends or not begins or max(ends) < min(begins), path)
            for node in ast.walk(tree):
                self.assertNotIsInstance(node, ast.Import)
                if not isinstance(node, ast.ImportFrom):
                    continue
                self.assertEqual(node.level, 0)
                for alias in node.names:
                    self.assertIsNone(alias.asname)
                    if node.module in LIBRARY:
                        self.assertIn(alias.name, LIBRARY[node.module])
                        continue
                    defined = {
                        getattr(part, "name", None) or part.targets[0].id
                        for part in read_tree(names[node.module]).body
                        if isinstance(part, (ast.FunctionDef, ast.ClassDef, ast.Assign))
                    }
                    self.assertIn(alias.name, defined, path)

    def test_no_two_files_import_from_each_other(self):
        needs = {
            module_name(path): {
                node.module for node in ast.walk(read_tree(path))
                if isinstance(node, ast.ImportFrom) and node.module not in LIBRARY
            }
            for path in FILES
        }
        done = set()
        while len(done) < len(needs):
            ready = {name for name in needs if name not in done and needs[name] <= done}
            self.assertTrue(ready, "files import in a ring")
            done |= ready

    def test_each_import_is_used(self):
        for path in FILES:
            tree = read_tree(path)
            used = {node.id for node in ast.walk(tree) if isinstance(node, ast.Name)}
            for node in tree.body:
                if isinstance(node, ast.ImportFrom):
                    self.assertLessEqual({alias.name for alias in node.names}, used, path)


class TestNames(unittest.TestCase):

    def test_names_are_plain_and_free(self):
        for path in FILES:
            tree = read_tree(path)
            taken = {alias.name for node in tree.body if isinstance(node, ast.ImportFrom) for alias in node.names}
            taken |= {node.name for node in tree.body if isinstance(node, ast.ClassDef)}
            defined = [node.name for node in ast.walk(tree) if isinstance(node, (ast.FunctionDef, ast.ClassDef))]
            for name in list(bound_names(tree)) + [name for name in defined if name not in DOUBLE]:
                self.assertRegex(name, r"^(_|_?[A-Za-z][A-Za-z0-9_]*)$")
                self.assertNotIn(name, BARRED)
                self.assertFalse(hasattr(builtins, name), name)
                self.assertFalse(keyword.iskeyword(name) or keyword.issoftkeyword(name) and name != "_", name)
            for name in bound_names(tree):
                self.assertNotIn(name, taken, path)

    def test_names_are_bound_once_at_module_level(self):
        for path in FILES:
            names = []
            for node in read_tree(path).body:
                if isinstance(node, ast.ImportFrom):
                    names += [alias.name for alias in node.names]
                elif isinstance(node, ast.Assign):
                    self.assertEqual(len(node.targets), 1)
                    names.append(node.targets[0].id)
                elif not isinstance(node, ast.Expr):
                    self.assertIsInstance(node, (ast.FunctionDef, ast.ClassDef))
                    names.append(node.name)
                else:
                    self.assertIsInstance(node.value, ast.Constant)
            self.assertEqual(len(names), len(set(names)), path)

    def test_builtins(self):
        for path in FILES:
            tree = read_tree(path)
            known = set(bound_names(tree)) | BUILTINS
            for node in ast.walk(tree):
                if isinstance(node, (ast.FunctionDef, ast.ClassDef)):
                    known.add(node.name)
                elif isinstance(node, ast.ImportFrom):
                    known |= {alias.name for alias in node.names}
            for node in ast.walk(tree):
                if isinstance(node, ast.Name):
                    self.assertIn(node.id, known, path)

    def test_attributes_and_methods(self):
        own = {node.name for _, node in nodes(ast.FunctionDef)}
        stored = {node.attr for _, node in nodes(ast.Attribute) if isinstance(node.ctx, ast.Store)}
        for place, node in nodes(ast.Attribute):
            self.assertIn(node.attr, own | stored | METHODS, place)
            if isinstance(node.ctx, ast.Store):
                self.assertIn(node.value.id, ("self", "other"), place)

    def test_a_method_is_no_attribute_of_its_class(self):
        for place, node in nodes(ast.ClassDef):
            methods = [part.name for part in node.body if isinstance(part, ast.FunctionDef)]
            self.assertEqual(len(methods), len(set(methods)), place)
            stored = {
                part.attr for part in ast.walk(node) if isinstance(part, ast.Attribute) and isinstance(part.ctx, ast.Store)
            }
            self.assertFalse(stored & set(methods), place)
            for name in methods:
                self.assertTrue(not name.startswith("__") or name in DOUBLE, place)

    def test_each_private_name_is_used(self):
        for path in FILES:
            tree = read_tree(path)
            used = [node.id for node in ast.walk(tree) if isinstance(node, ast.Name)]
            used += [node.attr for node in ast.walk(tree) if isinstance(node, ast.Attribute)]
            for node in ast.walk(tree):
                if isinstance(node, ast.FunctionDef) and node.name.startswith("_") and node.name not in DOUBLE:
                    self.assertIn(node.name, used, path)


class TestCode(unittest.TestCase):

    def test_kinds_of_statements_and_expressions(self):
        for place, node in nodes((ast.stmt, ast.expr)):
            self.assertIsInstance(node, STATEMENTS + EXPRESSIONS, place)
            self.assertFalse(isinstance(node, ast.Assign) and len(node.targets) > 1, place)

    def test_no_annotations_and_few_decorators(self):
        for place, node in nodes(ast.FunctionDef):
            self.assertIsNone(node.returns, place)
            for decorator in node.decorator_list:
                self.assertIn(decorator.id, ("property", "classmethod"), place)
            self.assertEqual(node.args.defaults, [], place)
            self.assertTrue(all(isinstance(default, ast.Constant) for default in node.args.kw_defaults), place)
            self.assertTrue(all(argument.annotation is None for argument in node.args.args), place)
        for place, node in nodes(ast.ClassDef):
            self.assertEqual(node.decorator_list + node.keywords, [], place)

    def test_values(self):
        for place, node in nodes(ast.Constant):
            self.assertIsInstance(node.value, (int, str, type(None)), place)
            if isinstance(node.value, str):
                self.assertNotIn("%", node.value, place)
                self.assertNotRegex(node.value, r"^__.*__$")
        for place, node in nodes(ast.BinOp):
            self.assertNotIsInstance(node.op, (ast.Div, ast.MatMult), place)
            if isinstance(node.op, ast.Pow):
                self.assertIsInstance(node.right, ast.Constant, place)
                self.assertLessEqual(node.right.value, 64, place)

    def test_identity_with_none_alone(self):
        for place, node in nodes(ast.Compare):
            for operator, right in zip(node.ops, node.comparators):
                if isinstance(operator, (ast.Is, ast.IsNot)):
                    self.assertIsInstance(right, ast.Constant, place)
                    self.assertIn(right.value, (None, True, False), place)

    def test_sets_are_measured_or_sorted_at_once(self):
        inside = set()
        for _, node in nodes(ast.Call):
            if isinstance(node.func, ast.Name) and node.func.id in ("len", "sorted"):
                inside |= {ast.dump(argument) for argument in node.args}
        for place, node in nodes(ast.Call):
            if isinstance(node.func, ast.Name) and node.func.id == "set":
                self.assertIn(ast.dump(node), inside, place)

    def test_calls(self):
        for place, node in nodes(ast.Call):
            self.assertIsInstance(node.func, (ast.Name, ast.Attribute), place)
            self.assertEqual(node.keywords, [], place)
            self.assertFalse(any(isinstance(argument, ast.Starred) for argument in node.args), place)
            if isinstance(node.func, ast.Attribute) and node.func.attr in ("sort", "add", "discard"):
                self.fail(place)

    def test_ranges_and_views_are_used_on_the_spot(self):
        for place, node in nodes(ast.Assign):
            if isinstance(node.value, ast.Call) and isinstance(node.value.func, ast.Name):
                self.assertNotIn(node.value.func.id, ("zip", "enumerate", "reversed", "map", "set"), place)

    def test_errors_are_created_where_they_are_raised(self):
        for place, node in nodes(ast.Raise):
            self.assertIsInstance(node.exc, ast.Call, place)
            self.assertRegex(node.exc.func.id, r"^[A-Z]", place)
            self.assertIsNone(node.cause, place)

    def test_errors_are_caught_by_their_own_names(self):
        """Own errors alone, around few calls; behind a `finally` stand plain assignments of names."""
        own = {node.name for node in read_tree(ROOT / "errors.py").body if isinstance(node, ast.ClassDef)}
        for place, node in nodes(ast.Try):
            for handler in node.handlers:
                self.assertIn(handler.type.id, own, place)
                self.assertIsNone(handler.name, place)
            for part in node.finalbody:
                self.assertIsInstance(part, ast.Assign, place)
                self.assertFalse([one for one in ast.walk(part) if isinstance(one, (ast.Subscript, ast.Call, ast.BinOp))], place)
            self.assertFalse(node.orelse, place)

    def test_operators_and_properties_change_nothing(self):
        """What stands in them, and in what they call or create, changes just what it made itself."""
        functions = {}
        for _, node in nodes(ast.FunctionDef):
            if node.name != "__init__":
                functions.setdefault(node.name, []).append(node)
        creates = {
            node.name: part for _, node in nodes(ast.ClassDef) for part in node.body
            if isinstance(part, ast.FunctionDef) and part.name == "__init__"
        }
        waiting = [
            node for _, node in nodes(ast.FunctionDef)
            if node.name in DOUBLE - {"__init__"} or any(one.id == "property" for one in node.decorator_list)
        ]
        for node in waiting:
            for name in called_names(node):
                if name in creates:
                    further = [one for called in called_names(creates[name]) for one in functions.get(called, ())]
                else:
                    further = functions.get(name, ())
                waiting += [one for one in further if one not in waiting]
            self.assertEqual(changed_by(node), [], node.name)
        self.assertGreater(len(waiting), 60)

    def test_docstrings(self):
        for path in FILES:
            tree = read_tree(path)
            self.assertTrue(ast.get_docstring(tree), path)
            for node in tree.body:
                if isinstance(node, (ast.FunctionDef, ast.ClassDef)) and not node.name.startswith("_"):
                    self.assertTrue(ast.get_docstring(node), node.name)

    def test_generators_are_iterated_at_once(self):
        generators = {
            node.name for _, node in nodes(ast.FunctionDef)
            if any(isinstance(part, (ast.Yield, ast.YieldFrom)) for part in ast.walk(node))
        }
        heads = []
        for _, node in nodes((ast.For, ast.YieldFrom, ast.comprehension)):
            heads.append(ast.dump(node.value if isinstance(node, ast.YieldFrom) else node.iter))
        for _, node in nodes(ast.Call):
            if isinstance(node.func, ast.Name) and node.func.id == "list":
                heads += [ast.dump(argument) for argument in node.args]
        for place, node in nodes(ast.Call):
            if isinstance(node.func, ast.Name) and node.func.id in generators:
                self.assertTrue(ast.dump(node) in heads, place)
                for argument in node.args:
                    self.assertNotIsInstance(argument, (ast.BinOp, ast.Call, ast.Subscript, ast.Compare), place)


if __name__ == "__main__":
    unittest.main()
