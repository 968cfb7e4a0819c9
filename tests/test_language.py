"""The rules of LANGUAGE.md that a look at the code can tell: L1 to L27, as far as the package comes near them."""

import ast
import builtins
import pathlib
import re
import unittest

# Doctest leaves a `_` among the builtins.
TAKEN = [name for name in dir(builtins) if name != "_"]
PACKAGE = pathlib.Path(__file__).parent.parent / "wishways"
LIBRARY = {"math": {"gcd", "lcm", "isqrt", "comb", "perm", "factorial"}, "itertools": {"product", "combinations", "permutations"},
           "heapq": {"heappush", "heappop"}}
BUILTINS = """len range enumerate zip min max sum abs sorted reversed int str bool bytes list tuple dict set isinstance
    ord repr any all divmod ValueError LookupError RuntimeError ArithmeticError KeyError""".split()
METHODS = """append clear copy count endswith extend find get index insert isalnum isalpha isdigit islower isspace isupper
    items join keys ljust lower lstrip partition pop remove replace reverse rfind rjust rpartition rsplit rstrip setdefault
    split splitlines startswith strip update upper values zfill bit_length""".split()
STATEMENTS = (ast.Assign, ast.AugAssign, ast.If, ast.While, ast.For, ast.Return, ast.Break, ast.Continue, ast.Pass, ast.Raise,
              ast.Assert, ast.Delete, ast.Expr, ast.FunctionDef, ast.ClassDef, ast.ImportFrom, ast.Try)
BARRED = """type typing typing_extensions enum Enum IntEnum StrEnum Flag IntFlag Generic Protocol ABC ABCMeta namedtuple NamedTuple
    TypedDict TYPE_CHECKING abstractmethod""".split()
NAMES_BARRED = """register mro elements open input law version_info with_traceback add_note attrgetter breakpoint builtins compile
    copyright credits delattr dir eval exec exit gc globals help id importlib license locals methodcaller os quit super type
    vars sys _cold _tuplegetter _outside _record _written_out _member_names""".split()


def files():
    return sorted(PACKAGE.glob("*.py"))


def tree_of(path):
    return ast.parse(path.read_text())


def functions(tree):
    return [node for node in ast.walk(tree) if isinstance(node, ast.FunctionDef)]


def classes(tree):
    return [node for node in ast.walk(tree) if isinstance(node, ast.ClassDef)]


def bound_names(tree):
    """Names of parameters and local variables, and of functions and classes."""
    inner = [node.id for node in ast.walk(tree) if isinstance(node, ast.Name) and isinstance(node.ctx, ast.Store)]
    inner += [node.arg for node in ast.walk(tree) if isinstance(node, ast.arg)]
    inner += [node.name for node in ast.walk(tree) if isinstance(node, ast.ExceptHandler) and node.name]
    outer = [node.name for node in ast.walk(tree) if isinstance(node, (ast.FunctionDef, ast.ClassDef))]
    return inner, outer


def imports(tree):
    return [node for node in tree.body if isinstance(node, ast.ImportFrom)]


class Language(unittest.TestCase):
    def test_l1_l14_files(self):
        there = [path for path in PACKAGE.iterdir() if path.name != "__pycache__"]
        self.assertEqual(sorted(there), files())
        for path in there:
            self.assertRegex(path.name, r"^(__init__|[a-z][a-z0-9_]*)\.py$")
            self.assertNotIn(path.stem, TAKEN)
        self.assertLessEqual(len(there), 100)

    def test_l10_l14_sizes_and_signs(self):
        for path in files():
            text = path.read_text()
            lines = text.splitlines()
            self.assertLessEqual(len(lines), 399, path.name)
            self.assertLessEqual(max([len(line) for line in lines]), 120, path.name)
            self.assertRegex(text, r"\A[ -~\n]*\n\Z", path.name)
            for function in functions(tree_of(path)):
                self.assertLessEqual(function.end_lineno - function.lineno + 1, 40, function.name)

    def test_l2_l16_imports(self):
        after = {}
        for path in files():
            tree = tree_of(path)
            after[path.stem] = []
            found = [node for node in ast.walk(tree) if isinstance(node, (ast.Import, ast.ImportFrom))]
            self.assertEqual(found, imports(tree), path.name)
            for node in found:
                self.assertEqual(node.level, 0)
                names = [alias.name for alias in node.names]
                self.assertEqual([alias.asname for alias in node.names], [None] * len(names))
                if node.module in LIBRARY:
                    self.assertLessEqual(set(names), LIBRARY[node.module])
                    continue
                self.assertRegex(node.module, r"^wishways\.[a-z]+$")
                stem = node.module.split(".")[1]
                after[path.stem].append(stem)
                target = tree_of(PACKAGE / (stem + ".py"))
                defined = [part.name for part in target.body if isinstance(part, (ast.FunctionDef, ast.ClassDef))]
                defined += [part.targets[0].id for part in target.body if isinstance(part, ast.Assign)]
                self.assertLessEqual(set(names), set(defined), path.name)
        while after:
            free = [stem for stem, needs in after.items() if not [need for need in needs if need in after]]
            self.assertNotEqual(free, [], "files import from each other")
            after = {stem: needs for stem, needs in after.items() if stem not in free}

    def test_no_import_without_use(self):
        for path in files():
            tree = tree_of(path)
            used = {node.id for node in ast.walk(tree) if isinstance(node, ast.Name)}
            for node in imports(tree):
                self.assertLessEqual({alias.name for alias in node.names}, used, path.name)

    def test_l3_l15_module_level(self):
        for path in files():
            tree = tree_of(path)
            self.assertIsNotNone(ast.get_docstring(tree), path.name)
            names = []
            for node in tree.body[1:]:
                self.assertIsInstance(node, (ast.ImportFrom, ast.FunctionDef, ast.ClassDef, ast.Assign), path.name)
                if isinstance(node, ast.Assign):
                    self.assertEqual(len(node.targets), 1)
                    ast.literal_eval(node.value)
                    names.append(node.targets[0].id)
                elif isinstance(node, ast.ImportFrom):
                    names.extend([alias.name for alias in node.names])
                else:
                    names.append(node.name)
            self.assertEqual(len(names), len(set(names)), path.name)

    def test_l6_l7_statements_and_values(self):
        barred = (ast.GeneratorExp, ast.Global, ast.AsyncFunctionDef, ast.Await, ast.NamedExpr, ast.Yield, ast.YieldFrom,
                  ast.Div, ast.Starred, ast.AnnAssign, ast.With)
        for path in files():
            for node in ast.walk(tree_of(path)):
                self.assertNotIsInstance(node, barred, f"{path.name} {getattr(node, 'lineno', '')}")
                if isinstance(node, ast.stmt):
                    self.assertIsInstance(node, STATEMENTS, path.name)
                if isinstance(node, (ast.FunctionDef, ast.ClassDef)):
                    self.assertEqual(node.decorator_list, [])
                if isinstance(node, ast.Constant):
                    self.assertNotIsInstance(node.value, (float, complex, bytes), path.name)

    def test_l8_l12_l15_l17_names(self):
        for path in files():
            tree = tree_of(path)
            inner, outer = bound_names(tree)
            imported = [alias.name for node in imports(tree) for alias in node.names]
            own = [node.name for node in classes(tree)]
            for name in inner + [name for name in outer if name != "__init__"]:
                self.assertRegex(name, r"^(_|_?[A-Za-z][A-Za-z0-9_]*)$", path.name)
                self.assertNotIn(name, TAKEN, path.name)
                self.assertNotIn(name, NAMES_BARRED, path.name)
            for name in inner:
                self.assertNotIn(name, imported + own, path.name)
            module = [part.name for part in tree.body if isinstance(part, (ast.FunctionDef, ast.ClassDef))]
            module += [part.targets[0].id for part in tree.body if isinstance(part, ast.Assign)]
            for node in ast.walk(tree):
                if isinstance(node, ast.Name) and node.id in TAKEN:
                    self.assertIn(node.id, BUILTINS, path.name)
                elif isinstance(node, ast.Name):
                    self.assertIn(node.id, inner + module + imported, path.name)
            for word in re.findall(r"\w+", re.sub(r'"""(.|\n)*?"""|#.*', "", path.read_text())):
                self.assertNotIn(word, BARRED, path.name)

    def test_l15_no_local_name_is_a_function_of_its_file(self):
        for path in files():
            tree = tree_of(path)
            inner, _ = bound_names(tree)
            outer = [part.name for part in tree.body if isinstance(part, (ast.FunctionDef, ast.ClassDef))]
            module = [part.targets[0].id for part in tree.body if isinstance(part, ast.Assign)]
            self.assertEqual([name for name in inner if name in outer], [], path.name)
            self.assertEqual([name for name in module if inner.count(name) > 1], [], path.name)

    def test_l5_l18_classes(self):
        for path in files():
            for node in classes(tree_of(path)):
                methods = [part.name for part in functions(node)]
                attributes = [part.attr for part in ast.walk(node) if isinstance(part, ast.Attribute) and isinstance(part.ctx, ast.Store)]
                self.assertEqual([name for name in methods if name in attributes], [], node.name)
                self.assertEqual(len(methods), len(set(methods)))
                for name in methods:
                    self.assertTrue(name == "__init__" or not name.startswith("_"), name)
                for function in functions(node):
                    self.assertEqual(function.args.args[0].arg, "self")

    def test_l19_errors(self):
        errors = [node.name for node in classes(tree_of(PACKAGE / "errors.py"))]
        for path in files():
            for node in ast.walk(tree_of(path)):
                if isinstance(node, ast.Try):
                    self.assertEqual([node.finalbody, node.orelse], [[], []])
                    for handler in node.handlers:
                        caught = handler.type.elts if isinstance(handler.type, ast.Tuple) else [handler.type]
                        for name in caught:
                            self.assertIn(name.id, errors, path.name)
                if isinstance(node, ast.Raise):
                    self.assertIsInstance(node.exc, ast.Call)
                    self.assertIn(node.exc.func.id, errors, path.name)

    def test_l20_l22_l25_calls(self):
        own = [part.name for path in files() for node in classes(tree_of(path)) for part in functions(node)]
        for path in files():
            for node in ast.walk(tree_of(path)):
                if isinstance(node, ast.Call):
                    if isinstance(node.func, ast.Attribute):
                        self.assertIn(node.func.attr, METHODS + own, path.name)
                    else:
                        self.assertIsInstance(node.func, ast.Name, path.name)
                    for keyword in node.keywords:
                        self.assertIn(keyword.arg, ("key", "reverse", "default", "start"), path.name)
                if isinstance(node, ast.Compare):
                    for sign, side in zip(node.ops, node.comparators):
                        if isinstance(sign, (ast.Is, ast.IsNot)):
                            self.assertIsInstance(side, ast.Constant)
                            self.assertIn(side.value, (None, True, False))

    def test_l24_sets(self):
        for path in files():
            tree = tree_of(path)
            measured = [node.args[0] for node in ast.walk(tree) if isinstance(node, ast.Call)
                        and isinstance(node.func, ast.Name) and node.func.id in ("len", "sorted")]
            for node in ast.walk(tree):
                self.assertNotIsInstance(node, (ast.Set, ast.SetComp), path.name)
                if isinstance(node, ast.Call) and isinstance(node.func, ast.Name) and node.func.id == "set":
                    self.assertIn(node, measured, path.name)

    def test_l23_iterated_at_once(self):
        for path in files():
            tree = tree_of(path)
            let = []
            for node in ast.walk(tree):
                if isinstance(node, (ast.For, ast.comprehension)):
                    let.append(node.iter)
                if isinstance(node, ast.Call) and isinstance(node.func, ast.Name) and node.func.id in (
                        "list", "tuple", "dict", "sorted", "sum", "any", "all", "combinations", "product"):
                    let.extend(node.args[:1])
            for node in ast.walk(tree):
                if isinstance(node, ast.Call) and isinstance(node.func, ast.Name) and node.func.id in (
                        "zip", "range", "enumerate", "reversed"):
                    self.assertIn(node, let, f"{path.name} {node.lineno}")

    def test_l27_numbers_and_strings(self):
        for path in files():
            tree = tree_of(path)
            for node in ast.walk(tree):
                if isinstance(node, ast.Constant) and isinstance(node.value, str):
                    self.assertNotIn("%", node.value, path.name)
                    self.assertFalse(node.value.endswith(("._", ".__")), path.name)
                if isinstance(node, ast.BinOp) and isinstance(node.op, ast.Pow):
                    self.assertIsInstance(node.right, ast.Constant)
                    self.assertIn(node.right.value, list(range(65)))

    def test_no_test_in_the_package(self):
        for path in files():
            self.assertFalse(path.name.startswith("test"))
            self.assertNotIn("unittest", path.read_text())


if __name__ == "__main__":
    unittest.main()
