"""The form of the package's files, as far as it can be told by looking at them."""

import ast
import builtins
import pathlib
import re
import unittest

PACKAGE = pathlib.Path(__file__).resolve().parent.parent / "bellferry"

# Statements and expressions that the program may be made of.
ALLOWED = (
    ast.Module, ast.ImportFrom, ast.alias, ast.FunctionDef, ast.arguments, ast.arg, ast.Lambda, ast.ClassDef,
    ast.Assign, ast.AugAssign, ast.If, ast.While, ast.For, ast.Return, ast.Break, ast.Continue, ast.Pass,
    ast.Raise, ast.Try, ast.ExceptHandler, ast.Expr, ast.Constant, ast.List, ast.Tuple, ast.Dict, ast.Set,
    ast.BinOp, ast.UnaryOp, ast.BoolOp, ast.Compare, ast.IfExp, ast.Call, ast.keyword, ast.Attribute,
    ast.Subscript, ast.Slice, ast.ListComp, ast.comprehension, ast.JoinedStr, ast.FormattedValue, ast.Name,
    ast.operator, ast.unaryop, ast.boolop, ast.cmpop, ast.expr_context,
)

BUILT_IN = """
len range enumerate zip min max sum abs sorted reversed int str bool list tuple dict set frozenset isinstance ord
repr any all divmod Exception ValueError TypeError KeyError IndexError LookupError ZeroDivisionError ArithmeticError
OverflowError RuntimeError NotImplementedError AttributeError StopIteration
""".split()

METHODS = """
append clear copy count endswith extend find get index insert isalnum isalpha isdigit islower isspace isupper items
join keys ljust lower lstrip partition pop remove replace reverse rfind rjust rpartition rsplit rstrip setdefault split
splitlines startswith strip update upper values zfill bit_length
""".split()

# Words that stand nowhere in a file, and those that stand in no longer word either.
BARRED = """
type typing typing_extensions enum Enum IntEnum StrEnum Flag IntFlag Generic Protocol ABC ABCMeta namedtuple
NamedTuple TypedDict TYPE_CHECKING abstractmethod
""".split()
BARRED_WITHIN = ("dataclass", "overload", "contextmanager")

# Names that are used nowhere, neither by themselves nor behind a dot.
UNUSED = "register mro elements open input version_info with_traceback add_note format format_map".split()

# Names that are not used by themselves; those of Python's own among them are seen elsewhere.
NO_NAMES = "attrgetter builtins gc importlib methodcaller os sys".split()

# What is made of these is walked at once: behind the "in" of a walk, or as the first thing in one of the takers.
WALKED = "zip enumerate reversed range items keys values".split()
TAKERS = "list tuple dict sorted sum any all enumerate zip min max join".split()

KEYWORDS = {
    "sorted": ["key", "reverse"], "min": ["key", "default"], "max": ["key", "default"], "sum": ["start"],
    "enumerate": ["start"], "zip": ["strict"],
}

PYTHONS_OWN = dir(builtins)


def trees():
    return [(path, ast.parse(path.read_text(encoding="utf-8"))) for path in sorted(PACKAGE.glob("*.py"))]


def nodes(*kinds):
    return [(path.name, node) for path, tree in trees() for node in ast.walk(tree) if isinstance(node, kinds)]


class FormTest(unittest.TestCase):
    def test_the_folder_holds_plain_files_alone(self):
        names = [path.name for path in PACKAGE.iterdir() if path.name != "__pycache__"]
        self.assertIn("__init__.py", names)
        for name in names:
            self.assertRegex(name, r"^(__init__|__main__|[a-z][a-z0-9_]*)\.py$")
            self.assertNotIn(name[:-3], PYTHONS_OWN + BARRED)
            self.assertNotRegex(name, r"^(tests?|testing|test_.*|site|conftest|sitecustomize|usercustomize)\.py$")

    def test_signs_and_lengths(self):
        for path in PACKAGE.glob("*.py"):
            rows = path.read_bytes().decode("ascii").split("\n")
            self.assertLessEqual(len(rows), 400)
            for row in rows:
                self.assertRegex(row, r"^[ -~]{0,120}$", path.name)

    def test_functions_have_at_most_40_lines(self):
        for name, node in nodes(ast.FunctionDef):
            self.assertLessEqual(node.end_lineno - node.lineno + 1, 40, (name, node.name))

    def test_barred_words_stand_nowhere(self):
        for path in PACKAGE.glob("*.py"):
            text = path.read_text(encoding="utf-8")
            for word in BARRED:
                self.assertIsNone(re.search(rf"\b{word}\b", text), (path.name, word))
            for word in BARRED_WITHIN:
                self.assertNotIn(word, text, path.name)

    def test_only_the_allowed_statements_and_expressions(self):
        for name, node in nodes(ast.AST):
            self.assertIsInstance(node, ALLOWED, (name, getattr(node, "lineno", None)))
        for name, node in nodes(ast.Div, ast.MatMult):
            self.fail((name, "no such operator"))
        for name, node in nodes(ast.For, ast.While):
            self.assertEqual(node.orelse, [], (name, node.lineno))
        for name, node in nodes(ast.Assign):
            self.assertEqual(len(node.targets), 1, (name, node.lineno))
            self.assertNotIsInstance(node.targets[0], (ast.Tuple, ast.List), (name, node.lineno))
        for name, node in nodes(ast.Try):
            self.assertEqual(node.finalbody, [], (name, node.lineno))
        for name, node in nodes(ast.FunctionDef, ast.ClassDef):
            self.assertEqual(node.decorator_list, [], (name, node.lineno))

    def test_plain_values(self):
        for name, node in nodes(ast.Constant):
            self.assertIsInstance(node.value, (int, str, type(None)), (name, node.lineno))
            if isinstance(node.value, str):
                self.assertNotIn("%", node.value, (name, node.lineno))

    def test_parameters_are_plain(self):
        for name, node in nodes(ast.arguments):
            self.assertEqual((node.vararg, node.kwarg, node.kwonlyargs, node.posonlyargs), (None, None, [], []), name)
        for name, node in nodes(ast.arg):
            self.assertIsNone(node.annotation, (name, node.lineno))

    def test_imports_are_the_packages_own_and_stand_at_the_top(self):
        for path, tree in trees():
            at_top = [node for node in tree.body if isinstance(node, ast.ImportFrom)]
            everywhere = [node for node in ast.walk(tree) if isinstance(node, ast.ImportFrom)]
            self.assertEqual(at_top, everywhere, path.name)
            for node in at_top:
                self.assertEqual(node.level, 0)
                package, dot, module = node.module.partition(".")
                self.assertEqual(package, "bellferry")
                source = ast.parse((PACKAGE / (module + ".py")).read_text(encoding="utf-8"))
                for alias in node.names:
                    self.assertIn(alias.name, bound_at_top(source), path.name)

    def test_no_two_files_draw_from_one_another(self):
        draws = {
            path.stem: [node.module.partition(".")[2] for node in tree.body if isinstance(node, ast.ImportFrom)]
            for path, tree in trees()
        }
        for start in draws:
            reached = []
            ahead = list(draws[start])
            while ahead:
                name = ahead.pop()
                if name not in reached:
                    reached.append(name)
                    ahead.extend(draws[name])
            self.assertNotIn(start, reached)

    def test_the_top_holds_defs_and_each_name_once(self):
        for path, tree in trees():
            names = bound_at_top(tree)
            self.assertEqual(len(names), len(set(names)), path.name)
            self.assertIsNotNone(ast.get_docstring(tree), path.name)
            for node in tree.body[1:]:
                self.assertIsInstance(node, (ast.ImportFrom, ast.FunctionDef, ast.ClassDef, ast.Assign), path.name)

    def test_names_are_plain_and_none_of_pythons_own(self):
        for name, node in nodes(ast.arg, ast.FunctionDef, ast.ClassDef):
            told = node.arg if isinstance(node, ast.arg) else node.name
            if told not in ("__init__", "__eq__", "__repr__", "__str__", "__len__"):
                self.assertRegex(told, r"^[A-Za-z][A-Za-z0-9_]*$", name)
            self.assertNotIn(told, PYTHONS_OWN, name)
        for name, node in nodes(ast.Name):
            self.assertRegex(node.id, r"^[A-Za-z][A-Za-z0-9_]*$", name)
            if isinstance(node.ctx, ast.Store):
                self.assertNotIn(node.id, PYTHONS_OWN, (name, node.lineno))
            elif node.id in PYTHONS_OWN:
                self.assertIn(node.id, BUILT_IN, (name, node.lineno))

    def test_no_local_is_called_like_a_class_or_an_import(self):
        for path, tree in trees():
            taken = [node.name for node in tree.body if isinstance(node, ast.ClassDef)]
            for node in tree.body:
                if isinstance(node, ast.ImportFrom):
                    taken.extend([alias.asname or alias.name for alias in node.names])
            for node in ast.walk(tree):
                if isinstance(node, ast.arg):
                    self.assertNotIn(node.arg, taken, path.name)
                if isinstance(node, ast.Name) and isinstance(node.ctx, ast.Store):
                    self.assertNotIn(node.id, taken, path.name)

    def test_methods_that_are_called(self):
        own = [node.name for name, node in nodes(ast.FunctionDef)]
        for name, node in nodes(ast.Call):
            if isinstance(node.func, ast.Attribute):
                self.assertIn(node.func.attr, METHODS + own, (name, node.lineno))

    def test_is_stands_beside_none_and_truths_alone(self):
        for name, node in nodes(ast.Compare):
            for operator, right in zip(node.ops, node.comparators):
                if isinstance(operator, (ast.Is, ast.IsNot)):
                    self.assertIsInstance(right, ast.Constant, (name, node.lineno))
                    self.assertIn(right.value, (None, True, False))

    def test_exponents_are_written_out(self):
        for name, node in nodes(ast.BinOp):
            if isinstance(node.op, ast.Pow):
                self.assertIsInstance(node.right, ast.Constant, (name, node.lineno))
                self.assertIn(node.right.value, range(65), (name, node.lineno))

    def test_comprehensions_have_one_for_and_at_most_one_if(self):
        for name, node in nodes(ast.ListComp):
            self.assertEqual(len(node.generators), 1, (name, node.lineno))
            self.assertLessEqual(len(node.generators[0].ifs), 1, (name, node.lineno))

    def test_a_set_is_neither_kept_nor_walked(self):
        held = []
        for name, node in nodes(ast.Call, ast.Compare):
            if isinstance(node, ast.Compare):
                held.extend([(name, ast.dump(part, include_attributes=True)) for part in node.comparators + [node.left]])
            elif isinstance(node.func, ast.Name) and node.func.id in ("sorted", "len"):
                held.extend([(name, ast.dump(part, include_attributes=True)) for part in node.args])
        for name, node in nodes(ast.Call):
            if isinstance(node.func, ast.Name) and node.func.id in ("set", "frozenset"):
                self.assertIn((name, ast.dump(node, include_attributes=True)), held)

    def test_names_that_are_not_used(self):
        for name, node in nodes(ast.Name, ast.Attribute):
            self.assertNotIn(node.id if isinstance(node, ast.Name) else node.attr, UNUSED, (name, node.lineno))
        for name, node in nodes(ast.Name):
            self.assertNotIn(node.id, NO_NAMES, (name, node.lineno))

    def test_an_f_string_holds_plain_names(self):
        for name, node in nodes(ast.FormattedValue):
            self.assertIsInstance(node.value, ast.Name, (name, node.lineno))
            self.assertIsNone(node.format_spec, (name, node.lineno))
            self.assertIn(node.conversion, (-1, ord("r")), (name, node.lineno))

    def test_what_is_walked_is_walked_at_once(self):
        for path, tree in trees():
            walked = []
            for node in ast.walk(tree):
                if isinstance(node, (ast.For, ast.comprehension)):
                    walked.append(node.iter)
                if isinstance(node, ast.Call) and called(node) in TAKERS:
                    walked.extend(node.args if called(node) in ("zip", "min", "max") else node.args[:1])
            for node in ast.walk(tree):
                if isinstance(node, ast.Call) and called(node) in WALKED:
                    self.assertTrue(any(node is one for one in walked), (path.name, node.lineno))

    def test_what_a_loop_walks_is_not_changed_in_it(self):
        changes = "append clear extend insert pop remove reverse setdefault update".split()
        for name, loop in nodes(ast.For):
            walked = {one.id for one in ast.walk(loop.iter) if isinstance(one, ast.Name)}
            for node in ast.walk(loop):
                if isinstance(node, ast.Call) and isinstance(node.func, ast.Attribute) and node.func.attr in changes:
                    self.assertNotIn(ast.unparse(node.func.value), walked, (name, node.lineno))
                if isinstance(node, ast.Subscript) and isinstance(node.ctx, ast.Store):
                    self.assertNotIn(ast.unparse(node.value), walked, (name, node.lineno))

    def test_an_error_is_made_on_the_spot_and_taken_by_its_name(self):
        for name, node in nodes(ast.Raise):
            self.assertIsInstance(node.exc, ast.Call, (name, node.lineno))
            self.assertIsInstance(node.exc.func, ast.Name, (name, node.lineno))
        for name, node in nodes(ast.ExceptHandler):
            self.assertIsNotNone(node.type, (name, node.lineno))
            for one in ast.walk(node.type):
                if isinstance(one, ast.Name):
                    self.assertNotIn(one.id, ("Exception", "TypeError"), (name, node.lineno))

    def test_keywords_at_pythons_own(self):
        for name, node in nodes(ast.Call):
            if called(node) in BUILT_IN + METHODS:
                for keyword in node.keywords:
                    self.assertIn(keyword.arg, KEYWORDS.get(called(node), []), (name, node.lineno))

    def test_pythons_own_are_called_and_not_kept(self):
        """But for the kinds beside isinstance and the bases of the errors."""
        for path, tree in trees():
            fine = []
            for node in ast.walk(tree):
                if isinstance(node, ast.Call):
                    fine.append(node.func)
                    if called(node) == "isinstance":
                        fine.extend(ast.walk(node.args[1]))
                if isinstance(node, ast.ClassDef):
                    fine.extend(node.bases)
                if isinstance(node, ast.ExceptHandler):
                    fine.extend(ast.walk(node.type))
            for node in ast.walk(tree):
                if isinstance(node, ast.Name) and node.id in BUILT_IN:
                    self.assertTrue(any(node is one for one in fine), (path.name, node.lineno))

    def test_a_top_list_or_dict_holds_none_itself(self):
        for path, tree in trees():
            for node in tree.body:
                if isinstance(node, ast.Assign):
                    inner = [one for one in ast.walk(node.value) if isinstance(one, (ast.List, ast.Dict, ast.Set))]
                    self.assertLessEqual(len(inner), 1, (path.name, node.lineno))

    def test_classes_hold_methods_alone_and_each_once(self):
        for name, node in nodes(ast.ClassDef):
            self.assertLessEqual(len(node.bases), 1, (name, node.name))
            methods = [one.name for one in node.body if isinstance(one, ast.FunctionDef)]
            self.assertEqual(len(methods), len(set(methods)), (name, node.name))
            for one in node.body:
                self.assertIsInstance(one, (ast.FunctionDef, ast.Pass), (name, node.name))
            for one in node.body:
                if isinstance(one, ast.FunctionDef) and one.name == "__init__":
                    self.assertFalse([part for part in ast.walk(one) if isinstance(part, ast.Return)], name)

    def test_no_name_is_a_method_and_a_value(self):
        methods = [one.name for name, node in nodes(ast.ClassDef) for one in node.body if isinstance(one, ast.FunctionDef)]
        for name, node in nodes(ast.Attribute):
            if isinstance(node.ctx, ast.Store):
                self.assertNotIn(node.attr, methods, (name, node.lineno))
                self.assertIsInstance(node.value, ast.Name, (name, node.lineno))

    def test_methods_and_values_are_not_called_like_those_of_pythons_own_values(self):
        barred = [one for kind in (str, int, list, tuple, dict, set, bytes) for one in dir(kind)]
        told = [(name, one.name) for name, node in nodes(ast.ClassDef) for one in node.body if hasattr(one, "name")]
        told.extend([(name, node.attr) for name, node in nodes(ast.Attribute) if isinstance(node.ctx, ast.Store)])
        for name, one in told:
            if one != "__init__":
                self.assertNotIn(one, barred, name)

    def test_a_top_list_or_dict_is_only_read(self):
        for path, tree in trees():
            tops = [
                node.targets[0].id for node in tree.body
                if isinstance(node, ast.Assign) and isinstance(node.value, (ast.List, ast.Dict))
            ]
            read = []
            for node in ast.walk(tree):
                if isinstance(node, ast.Subscript) and isinstance(node.ctx, ast.Load):
                    read.append(node.value)
                if isinstance(node, ast.Compare):
                    read.extend(node.comparators)
                if isinstance(node, (ast.For, ast.comprehension)):
                    read.append(node.iter)
                if isinstance(node, ast.Call) and called(node) == "len":
                    read.extend(node.args)
            for node in ast.walk(tree):
                if isinstance(node, ast.Name) and isinstance(node.ctx, ast.Load) and node.id in tops:
                    self.assertTrue(any(node is one for one in read), (path.name, node.lineno))

    def test_backslashes_stand_ahead_of_plain_escapes_alone(self):
        for path in PACKAGE.glob("*.py"):
            for sign in re.findall(r"\\(.)", path.read_text(encoding="utf-8"), re.DOTALL):
                self.assertIn(sign, ("n", "t", "\\", "'", '"'), path.name)


def called(node):
    return node.func.attr if isinstance(node.func, ast.Attribute) else getattr(node.func, "id", None)


def bound_at_top(tree):
    names = []
    for node in tree.body:
        if isinstance(node, (ast.FunctionDef, ast.ClassDef)):
            names.append(node.name)
        if isinstance(node, ast.Assign):
            names.append(node.targets[0].id)
    return names
