"""The package's files keep to the small part of Python that they are to be written in, as far as a look can tell."""

import ast
import builtins
import pathlib
import re
import unittest

PACKAGE = pathlib.Path(__file__).resolve().parent.parent / "fitmost"
NODES = {
    "Module", "Expr", "Constant", "ImportFrom", "alias", "FunctionDef", "arguments", "arg", "ClassDef", "Assign",
    "AugAssign", "If", "While", "For", "Return", "Break", "Continue", "Pass", "Raise", "Try", "ExceptHandler", "Assert",
    "Delete", "Name", "Load", "Store", "Del", "Attribute", "Subscript", "Slice", "Call", "keyword", "List", "Tuple",
    "Dict", "Set", "ListComp", "DictComp", "SetComp", "comprehension", "IfExp", "Lambda", "JoinedStr",
    "FormattedValue", "BinOp", "Add", "Sub", "Mult", "FloorDiv", "Mod", "Pow", "BitAnd", "BitOr", "BitXor", "LShift",
    "RShift", "UnaryOp", "Not", "USub", "BoolOp", "And", "Or", "Compare", "Eq", "NotEq", "Lt", "LtE", "Gt", "GtE", "Is",
    "IsNot", "In", "NotIn",
}
PYTHONS_OWN = {
    "len", "range", "enumerate", "zip", "min", "max", "sum", "abs", "sorted", "reversed", "int", "str", "bool", "bytes",
    "list", "tuple", "dict", "set", "isinstance", "ord", "repr", "any", "all", "divmod", "Exception", "ValueError",
    "KeyError", "IndexError", "LookupError", "ZeroDivisionError",
}
METHODS = set("""
    append clear copy count endswith extend find get index insert isalnum isalpha isdigit islower isspace isupper items
    join keys ljust lower lstrip partition pop remove replace reverse rfind rjust rpartition rsplit rstrip setdefault
    split splitlines startswith strip update upper values zfill bit_length add discard
""".split())
WORDS = re.compile(
    r"\b(type|typing|typing_extensions|enum|Enum|IntEnum|StrEnum|Flag|IntFlag|Generic|Protocol|ABC|ABCMeta|namedtuple"
    r"|NamedTuple|TypedDict|TYPE_CHECKING|abstractmethod)\b|dataclass|overload|contextmanager")


def texts():
    return {path.stem: path.read_bytes().decode("ascii") for path in sorted(PACKAGE.glob("*.py"))}


def trees():
    return {name: ast.parse(text) for name, text in texts().items()}


def nodes(tree, *kinds):
    return [node for node in ast.walk(tree) if isinstance(node, kinds)]


def bound_at_top(tree):
    bound = []
    for row in tree.body:
        if isinstance(row, (ast.FunctionDef, ast.ClassDef)):
            bound.append(row.name)
        elif isinstance(row, ast.Assign):
            bound += [target.id for target in row.targets]
        elif isinstance(row, ast.ImportFrom):
            bound += [alias.name for alias in row.names]
    return bound


def bound_within(tree):
    given = [node.id for node in nodes(tree, ast.Name) if not isinstance(node.ctx, ast.Load)]
    given += [node.arg for node in nodes(tree, ast.arg)]
    given += [node.name for node in nodes(tree, ast.ExceptHandler) if node.name]
    return given


class Files(unittest.TestCase):

    def test_nothing_else_lies_in_the_package(self):
        told = [path.name for path in PACKAGE.iterdir() if path.name != "__pycache__"]
        for name in told:
            self.assertRegex(name, r"^(__init__|[a-z][a-z0-9_]*)\.py$")
        self.assertIn("__init__.py", told)

    def test_signs_sizes_and_words(self):
        for name, text in texts().items():
            with self.subTest(name):
                self.assertEqual([sign for sign in text if sign != "\n" and not " " <= sign <= "~"], [])
                rows = text.split("\n")
                self.assertLessEqual(len(rows), 400)
                self.assertLessEqual(max(len(row) for row in rows), 120)
                self.assertIsNone(WORDS.search(text))

    def test_defs_of_forty_rows(self):
        for name, tree in trees().items():
            for node in nodes(tree, ast.FunctionDef):
                with self.subTest(name + "." + node.name):
                    self.assertLessEqual(node.end_lineno - node.lineno + 1, 40)


class Form(unittest.TestCase):

    def test_nodes(self):
        for name, tree in trees().items():
            for node in ast.walk(tree):
                with self.subTest(name, line=getattr(node, "lineno", 0)):
                    self.assertIn(type(node).__name__, NODES)
                    if isinstance(node, (ast.For, ast.While)):
                        self.assertEqual(node.orelse, [])
                    if isinstance(node, ast.Constant):
                        self.assertIn(type(node.value), (int, str, bytes, bool, type(None)))
                    if isinstance(node, ast.Constant) and isinstance(node.value, str):
                        self.assertNotIn("%", node.value)

    def test_the_top_of_a_file(self):
        for name, tree in trees().items():
            with self.subTest(name):
                self.assertTrue(ast.get_docstring(tree))
                for row in tree.body[1:]:
                    self.assertIsInstance(row, (ast.ImportFrom, ast.FunctionDef, ast.ClassDef, ast.Assign))
                bound = bound_at_top(tree)
                self.assertEqual(len(set(bound)), len(bound))
                within = [row for row in nodes(tree, ast.ImportFrom, ast.ClassDef) if row not in tree.body]
                self.assertEqual(within, [])

    def test_defs_and_classes(self):
        for name, tree in trees().items():
            for node in nodes(tree, ast.FunctionDef, ast.ClassDef):
                with self.subTest(name + "." + node.name):
                    self.assertEqual(node.decorator_list, [])
                    if isinstance(node, ast.FunctionDef):
                        told = node.args
                        self.assertEqual((told.posonlyargs, told.vararg, told.kwarg), ([], None, None))
                    else:
                        self.assertLessEqual(len(node.bases), 1)
                        self.assertEqual(node.keywords, [])

    def test_errors_are_taken_by_their_own_names(self):
        for name, tree in trees().items():
            for node in nodes(tree, ast.ExceptHandler):
                with self.subTest(name, line=node.lineno):
                    told = node.type.elts if isinstance(node.type, ast.Tuple) else [node.type]
                    for error in told:
                        self.assertNotIn(error.id, ("Exception", "TypeError", "ValueError"))

    def test_is_and_powers(self):
        for name, tree in trees().items():
            for node in nodes(tree, ast.Compare):
                for sign, right in zip(node.ops, node.comparators):
                    if isinstance(sign, (ast.Is, ast.IsNot)):
                        self.assertIn(ast.unparse(right), ("None", "True", "False"))
            for node in nodes(tree, ast.BinOp):
                if isinstance(node.op, ast.Pow):
                    self.assertIn(node.right.value, range(65))


class Names(unittest.TestCase):

    def test_imports_are_drawn_from_where_they_are_made_and_used(self):
        told = trees()
        for name, tree in told.items():
            for row in nodes(tree, ast.ImportFrom):
                self.assertEqual((row.level, row.module.split(".")[0]), (0, "fitmost"))
                made = [made for made in told[row.module.split(".")[1]].body
                        if isinstance(made, (ast.FunctionDef, ast.ClassDef, ast.Assign))]
                for alias in row.names:
                    with self.subTest(name + "." + alias.name):
                        self.assertIsNone(alias.asname)
                        self.assertIn(alias.name, bound_at_top(ast.Module(body=made, type_ignores=[])))
                        self.assertIn(alias.name, [node.id for node in nodes(tree, ast.Name)])

    def test_no_two_files_draw_from_one_another(self):
        drawn = {name: {row.module.split(".")[1] for row in nodes(tree, ast.ImportFrom)}
                 for name, tree in trees().items()}
        while drawn:
            free = [name for name, others in drawn.items() if not others & set(drawn)]
            self.assertNotEqual(free, [], drawn)
            drawn = {name: others for name, others in drawn.items() if name not in free}

    def test_names_are_plain_and_known(self):
        for name, tree in trees().items():
            top, within = bound_at_top(tree), bound_within(tree)
            for word in top + within + [node.name for node in nodes(tree, ast.FunctionDef)]:
                with self.subTest(name + "." + word):
                    self.assertRegex(word, r"^([A-Za-z]\w*|__(init|eq|repr|str|len)__)$")
                    self.assertNotIn(word, dir(builtins))
            for node in nodes(tree, ast.Name):
                with self.subTest(name + "." + node.id, line=node.lineno):
                    self.assertIn(node.id, PYTHONS_OWN | set(top) | set(within))

    def test_locals_are_not_called_like_classes_and_imports(self):
        for name, tree in trees().items():
            barred = [row.name for row in nodes(tree, ast.ClassDef)]
            barred += [alias.name for row in nodes(tree, ast.ImportFrom) for alias in row.names]
            self.assertEqual(sorted(set(barred) & set(bound_within(tree))), [], name)

    def test_methods_and_values(self):
        told = list(trees().values())
        methods = {row.name for tree in told for made in nodes(tree, ast.ClassDef) for row in made.body
                   if isinstance(row, ast.FunctionDef)}
        asked = [node for tree in told for node in nodes(tree, ast.Attribute)]
        values = {node.attr for node in asked if isinstance(node.ctx, ast.Store)}
        self.assertEqual(sorted(methods & values), [])
        for node in asked:
            self.assertIn(node.attr, methods | values | METHODS)


if __name__ == "__main__":
    unittest.main()
