"""The plainer rules of the language of the package, read off its files."""

import ast
import builtins
import io
import os
import re
import tokenize
import unittest

FOLDER = os.path.join(os.path.dirname(os.path.dirname(os.path.abspath(__file__))), "seenframes")
FILES = sorted(name for name in os.listdir(FOLDER) if name != "__pycache__")

BUILTINS = set("""len range enumerate zip min max sum abs sorted reversed int str bool list tuple dict set isinstance
    ord repr any all divmod iter NotImplemented Exception ValueError TypeError KeyError IndexError LookupError
    ZeroDivisionError ArithmeticError OverflowError RuntimeError NotImplementedError""".split())
FREE_LOCALS = {"object", "id", "format", "credits", "license", "copyright", "quit", "callable", "complex", "ascii",
               "oct", "memoryview", "aiter", "anext"}
METHODS = set("""append clear copy count endswith extend find get index insert isalnum isalpha isdigit islower isspace
    isupper items join keys ljust lower lstrip partition pop remove replace reverse rfind rjust rpartition rsplit
    rstrip setdefault split splitlines startswith strip update upper values zfill bit_length title capitalize swapcase
    casefold center expandtabs removeprefix removesuffix rindex isascii isdecimal isnumeric istitle isidentifier
    isprintable""".split())
CHANGES = {"append", "clear", "extend", "insert", "pop", "remove", "reverse", "setdefault", "update", "add", "discard"}
BARRED_ATTRIBUTES = set("""items keys values pop update append clear extend insert remove reverse setdefault sort args
    encode decode hex fromhex format format_map mro as_integer_ratio bit_count conjugate from_bytes is_integer
    to_bytes""".split())
BINARY = {"lt", "le", "gt", "ge", "ne", "add", "sub", "mul", "floordiv", "mod", "pow", "and", "or", "xor", "lshift",
          "rshift", "eq", "radd", "rsub", "rmul", "rand", "ror", "rxor", "iadd", "isub", "imul", "iand", "ior", "ixor"}
PARAMETERS = {**{f"__{name}__": ["self", "other"] for name in BINARY}, "__contains__": ["self", "x"],
              "__getitem__": ["self", "at"], "__setitem__": ["self", "at", "worth"],
              **{f"__{name}__": ["self"] for name in ("repr", "str", "len", "enter", "iter", "bool", "neg", "pos")},
              "__exit__": ["self", "kind", "value", "trace"]}
NEVER = set("mro elements open input law version_info with_traceback add_note register".split())
NO_NAMES = NEVER | set("""attrgetter breakpoint builtins compile copyright credits delattr dir eval exec exit gc getattr
    globals hasattr help id importlib license locals methodcaller os quit setattr super type vars sys""".split())
NO_WORDS = set("""type typing typing_extensions enum Enum IntEnum StrEnum Flag IntFlag Generic Protocol ABC ABCMeta
    namedtuple NamedTuple TypedDict TYPE_CHECKING abstractmethod""".split())
STATEMENTS = (ast.Assign, ast.If, ast.While, ast.For, ast.Return, ast.Break, ast.Continue, ast.Pass, ast.Raise,
              ast.With, ast.Try, ast.Expr, ast.FunctionDef)
LITERALS = (ast.Constant, ast.List, ast.Tuple, ast.Dict, ast.ListComp, ast.DictComp)
PROPERTY = {"property", "setter"}


def text_of(name):
    with open(os.path.join(FOLDER, name), encoding="utf-8", newline="") as lines:
        return lines.read()


TEXTS = {name: text_of(name) for name in FILES if name.endswith(".py")}
TREES = {name: ast.parse(text) for name, text in TEXTS.items()}


def nodes(kind, tree=None):
    """Pairs of a file and each node of a kind in it, or in one tree."""
    for name, whole in TREES.items() if tree is None else [("", tree)]:
        for node in ast.walk(whole):
            if isinstance(node, kind):
                yield name, node


def functions():
    """Triples of a file, a class or None, and each function or method."""
    for name, tree in TREES.items():
        for node in tree.body:
            if isinstance(node, ast.FunctionDef):
                yield name, None, node
            if isinstance(node, ast.ClassDef):
                for part in node.body:
                    if isinstance(part, ast.FunctionDef):
                        yield name, node, part


def decorators(function):
    return [part.id if isinstance(part, ast.Name) else getattr(part, "attr", "?") for part in function.decorator_list]


def parents(tree):
    return {child: node for node in ast.walk(tree) for child in ast.iter_child_nodes(node)}


def is_generator(function):
    return any(isinstance(node, (ast.Yield, ast.YieldFrom)) for node in ast.walk(function))


def called(node):
    """The bare name of what a call calls."""
    return node.func.id if isinstance(node, ast.Call) and isinstance(node.func, ast.Name) else None


def is_plain(node):
    try:
        ast.literal_eval(node)
    except ValueError:
        return False
    return True


GENERATORS = {function.name for _, _, function in functions() if is_generator(function)}
OWN_METHODS = {function.name for _, holder, function in functions() if holder}


class Files(unittest.TestCase):

    def test_only_plain_files(self):
        for name in FILES:
            self.assertRegex(name, r"^[a-z0-9_]+\.py$")
        self.assertIn("__init__.py", FILES)

    def test_sizes_and_signs(self):
        for name, text in TEXTS.items():
            self.assertLessEqual(len(text.splitlines()), 399, name)
            for line in text.split("\n"):
                self.assertLessEqual(len(line), 120, f"{name}: {line}")
                self.assertTrue(all(" " <= sign <= "~" for sign in line), f"{name}: {line}")

    def test_functions_are_short(self):
        for name, _, function in functions():
            self.assertLessEqual(function.end_lineno - function.lineno + 1, 40, f"{name}: {function.name}")

    def test_words_that_do_not_occur(self):
        for name, text in TEXTS.items():
            holders = nodes((ast.Module, ast.ClassDef, ast.FunctionDef), TREES[name])
            docs = {node.body[0].value.lineno for _, node in holders if isinstance(node.body[0], ast.Expr)}
            for token in tokenize.generate_tokens(io.StringIO(text).readline):
                if token.type == tokenize.COMMENT or token.type == tokenize.STRING and token.start[0] in docs:
                    continue
                words = set(re.findall(r"\w+", token.string))
                self.assertFalse(words & NO_WORDS, f"{name}: {token.string}")
            for word in ("dataclass", "overload", "contextmanager", "(type)", "Meta", "metaclass=", "_wall"):
                self.assertNotIn(word, text)


class Modules(unittest.TestCase):

    def is_table(self, node, above):
        """Whether this is a dict from words to functions that stand above it in the file."""
        names = {part.name for part in above if isinstance(part, ast.FunctionDef)}
        return isinstance(node, ast.Dict) and all(is_plain(key) for key in node.keys) and all(
            isinstance(part, ast.Name) and part.id in names for part in node.values)

    def test_module_level(self):
        for name, tree in TREES.items():
            late = False
            for at, node in enumerate(tree.body):
                if isinstance(node, ast.Expr):
                    self.assertTrue(at == 0 and isinstance(node.value.value, str), name)
                elif isinstance(node, ast.ImportFrom):
                    self.assertFalse(late, name)
                else:
                    late = True
                    self.assertIsInstance(node, (ast.FunctionDef, ast.ClassDef, ast.Assign), name)
                if isinstance(node, ast.Assign):
                    self.assertEqual(len(node.targets), 1, name)
                    self.assertIsInstance(node.targets[0], ast.Name, name)
                    self.assertTrue(is_plain(node.value) or self.is_table(node.value, tree.body[:at]), name)

    def test_imports(self):
        self.assertEqual(list(nodes(ast.Import)), [])
        for name, node in nodes(ast.ImportFrom):
            self.assertIn(node, TREES[name].body)
            self.assertEqual(node.level, 0)
            package, file = node.module.split(".")
            self.assertEqual(package, "seenframes")
            body = TREES[file + ".py"].body
            defined = {part.name for part in body if isinstance(part, (ast.FunctionDef, ast.ClassDef))}
            for alias in node.names:
                self.assertIn(alias.name, defined, name)
                self.assertIsNone(alias.asname, name)

    def test_imports_are_used(self):
        for name, node in nodes(ast.ImportFrom):
            used = {part.id for _, part in nodes(ast.Name, TREES[name])}
            self.assertLessEqual({alias.name for alias in node.names}, used, name)

    def test_no_file_imports_from_itself(self):
        above = {name: {node.module.split(".")[1] + ".py" for _, node in nodes(ast.ImportFrom, tree)}
                 for name, tree in TREES.items()}
        for _ in above:
            above = {name: found.union(*[above[other] for other in found]) for name, found in above.items()}
        for name, found in above.items():
            self.assertNotIn(name, found)

    def test_one_binding_for_each_name(self):
        for name, tree in TREES.items():
            bound = [alias.name for _, node in nodes(ast.ImportFrom, tree) for alias in node.names]
            bound.extend(node.name for node in tree.body if isinstance(node, (ast.FunctionDef, ast.ClassDef)))
            bound.extend(node.targets[0].id for node in tree.body if isinstance(node, ast.Assign))
            self.assertEqual(len(bound), len(set(bound)), name)


class Names(unittest.TestCase):

    def locals_of(self, tree):
        """The parameters and the variables that are assigned in a file."""
        found = {node.id for _, node in nodes(ast.Name, tree) if isinstance(node.ctx, ast.Store)}
        return found | {node.arg for _, node in nodes(ast.arg, tree)}

    def test_plain_names(self):
        for name, tree in TREES.items():
            found = self.locals_of(tree) | {node.attr for _, node in nodes(ast.Attribute, tree)}
            found |= {node.name for _, node in nodes((ast.FunctionDef, ast.ClassDef), tree)}
            for word in found - set(PARAMETERS) - {"__init__", "__call__", "__class__", "__name__"}:
                self.assertRegex(word, r"^(_?[A-Za-z][A-Za-z0-9_]*|_)$", name)
                self.assertNotRegex(word, r"^_(pe_|dcw_|enum_|cm_|twin_re_|lay_|law_|stub_|sre|cold|tuplegetter"
                                          r"|outside|record|written_out|member_names)", name)
                self.assertNotIn(word, NEVER, name)

    def test_names_of_classes_as_texts(self):
        for name, tree in TREES.items():
            above = parents(tree)
            for _, node in nodes(ast.Attribute, tree):
                if node.attr == "__class__":
                    self.assertIsInstance(node.value, ast.Name, name)
                    self.assertEqual(getattr(above[node], "attr", None), "__name__", name)
                if node.attr == "__name__":
                    self.assertEqual(getattr(node.value, "attr", None), "__class__", name)

    def test_names_of_builtins(self):
        for name, tree in TREES.items():
            top = {node.name for node in tree.body if isinstance(node, (ast.FunctionDef, ast.ClassDef))}
            for word in self.locals_of(tree) | top:
                self.assertTrue(not hasattr(builtins, word) or word in FREE_LOCALS - top, f"{name}: {word}")
                self.assertNotIn(word, NO_NAMES, name)

    def test_names_of_classes_and_imports(self):
        for name, tree in TREES.items():
            barred = {alias.name for _, node in nodes(ast.ImportFrom, tree) for alias in node.names}
            barred |= {node.name for node in tree.body if isinstance(node, ast.ClassDef)}
            self.assertFalse(barred & self.locals_of(tree), name)

    def test_only_builtins_that_are_allowed(self):
        for name, node in nodes(ast.Name):
            if hasattr(builtins, node.id) and node.id not in {*BUILTINS, "property", "classmethod", "super"}:
                self.assertIn(node.id, FREE_LOCALS & self.locals_of(TREES[name]), name)

    def test_methods_of_builtin_values(self):
        for name, node in nodes(ast.Call):
            if isinstance(node.func, ast.Attribute):
                self.assertIn(node.func.attr, METHODS | OWN_METHODS, name)
                if node.func.attr in METHODS:
                    self.assertEqual(node.keywords, [], name)

    def test_methods_are_only_called(self):
        for name, tree in TREES.items():
            above = parents(tree)
            for _, node in nodes(ast.Attribute, tree):
                if node.attr in METHODS:
                    over = above[node]
                    self.assertTrue(isinstance(over, ast.Call) and over.func is node, f"{name}: {node.attr}")

    def test_attributes(self):
        stored = {node.attr for _, node in nodes(ast.Attribute) if isinstance(node.ctx, ast.Store)}
        self.assertFalse(stored & BARRED_ATTRIBUTES)
        shown = {part.name for _, _, part in functions() if "property" in decorators(part)}
        self.assertFalse(stored & shown)
        plain = {part.name for _, holder, part in functions() if holder and not PROPERTY & set(decorators(part))}
        self.assertFalse(shown & (plain | METHODS))
        self.assertFalse(stored & plain)
        parts = [part for _, node in nodes(ast.ClassDef) for part in node.body if isinstance(part, ast.Assign)]
        values = {part.targets[0].id for part in parts}
        self.assertFalse(values & (stored | shown | plain))
        read = {node.attr for _, node in nodes(ast.Attribute) if isinstance(node.ctx, ast.Load)}
        self.assertLessEqual(read - {"setter", "__class__", "__name__"}, stored | shown | values | plain | METHODS)

    def test_names_of_generators(self):
        names = [function.name for _, _, function in functions()]
        for name in GENERATORS:
            self.assertEqual(names.count(name), 1, name)
            self.assertNotIn(name, METHODS)


class Statements(unittest.TestCase):

    def test_allowed_statements(self):
        for name, _, function in functions():
            for _, node in nodes(ast.stmt, function):
                self.assertIsInstance(node, STATEMENTS, f"{name}: {function.name}")
                if isinstance(node, ast.Expr):
                    self.assertIsInstance(node.value, (ast.Call, ast.Constant, ast.Yield, ast.YieldFrom), function.name)

    def test_no_in_place_signs(self):
        # The package has classes with `+=` of their own: it does without.
        self.assertEqual(list(nodes(ast.AugAssign)), [])

    def test_no_annotations(self):
        self.assertEqual(list(nodes(ast.AnnAssign)), [])
        for name, node in nodes(ast.arg):
            self.assertIsNone(node.annotation, name)
        for name, node in nodes(ast.FunctionDef):
            self.assertIsNone(node.returns, name)

    def test_no_nested_functions(self):
        for name, _, function in functions():
            self.assertEqual(len(list(nodes((ast.FunctionDef, ast.Lambda), function))), 1, f"{name}: {function.name}")

    def test_handlers(self):
        own = {node.name for node in TREES["errors.py"].body if isinstance(node, ast.ClassDef)}
        for name, node in nodes(ast.ExceptHandler):
            self.assertIn(node.type.id, own, name)
        for name, node in nodes(ast.Raise):
            self.assertIn(called(node.exc), own | {"TypeError"}, name)

    def test_with(self):
        for name, node in nodes(ast.With):
            for item in node.items:
                self.assertIsInstance(item.context_expr, ast.Call, name)
                self.assertIsInstance(item.optional_vars, ast.Name, name)

    def test_generators_are_iterated_at_once(self):
        for name, tree in TREES.items():
            above = parents(tree)
            for _, node in nodes(ast.Call, tree):
                word = called(node) or getattr(node.func, "attr", None)
                if word not in GENERATORS:
                    continue
                over = above[node]
                self.assertTrue(isinstance(over, (ast.For, ast.comprehension, ast.YieldFrom))
                                or called(over) in ("list", "tuple", "dict", "enumerate", "zip"), f"{name}: {word}")
                for part in node.args:
                    self.assertIsInstance(part, (ast.Name, ast.Attribute, ast.Constant), f"{name}: {word}")

    def test_views_are_iterated_at_once(self):
        for name, tree in TREES.items():
            above = parents(tree)
            for _, node in nodes(ast.Call, tree):
                word = called(node)
                if word in ("zip", "enumerate", "reversed", "range") or getattr(node.func, "attr", "") in (
                        "items", "keys", "values"):
                    over = above[node]
                    self.assertTrue(isinstance(over, (ast.For, ast.comprehension))
                                    or called(over) in ("list", "tuple", "dict", "sorted", "sum"), f"{name}: {word}")

    def test_loops_do_not_change_what_they_go_over(self):
        for name, _, function in functions():
            for _, loop in nodes(ast.For, function):
                over = ast.unparse(loop.iter)
                if called(loop.iter) == "list":
                    continue
                for part in loop.body:
                    for _, node in nodes((ast.Call, ast.Subscript), part):
                        if isinstance(node, ast.Subscript) and isinstance(node.ctx, ast.Store):
                            self.assertNotIn(ast.unparse(node.value), re.findall(r"[\w.]+", over), name)
                        if isinstance(node, ast.Call) and getattr(node.func, "attr", "") in CHANGES:
                            self.assertNotIn(ast.unparse(node.func.value), re.findall(r"[\w.]+", over), name)


class Values(unittest.TestCase):

    def test_allowed_values(self):
        barred = (ast.GeneratorExp, ast.SetComp, ast.Set, ast.NamedExpr, ast.Await, ast.Div, ast.MatMult)
        self.assertEqual([(name, ast.unparse(node)) for name, node in nodes(barred) if isinstance(node, ast.expr)], [])
        for name, node in nodes(ast.BinOp):
            if isinstance(node.op, ast.Pow):
                self.assertTrue(isinstance(node.right, ast.Constant) and 0 <= node.right.value <= 64, name)
            else:
                self.assertNotIsInstance(node.op, barred, name)
        for name, node in nodes(ast.Constant):
            self.assertIn(type(node.value).__name__, ("int", "str", "bool", "NoneType"), name)

    def test_is(self):
        for name, node in nodes(ast.Compare):
            for op, other in zip(node.ops, node.comparators):
                if isinstance(op, (ast.Is, ast.IsNot)):
                    self.assertTrue(isinstance(other, ast.Constant) and other.value in (None, True, False), name)

    def test_strings(self):
        for name, node in nodes(ast.Constant):
            if isinstance(node.value, str):
                self.assertNotIn("%", node.value, name)
                self.assertNotRegex(node.value, r"\._{1,2}$")
        for name, text in TEXTS.items():
            for token in tokenize.generate_tokens(io.StringIO(text).readline):
                if token.type == tokenize.STRING:
                    self.assertNotRegex(token.string, r"\\[^nt\\'\"]", name)

    def test_keywords_of_builtins(self):
        for name, node in nodes(ast.Call):
            if called(node) in BUILTINS:
                self.assertEqual(node.keywords, [], f"{name}: {ast.unparse(node)}")

    def test_rows_behind_any_and_all(self):
        for name, node in nodes(ast.Call):
            if called(node) in ("any", "all", "sum"):
                self.assertIsInstance(node.args[0], (ast.ListComp, ast.Name), name)

    def test_what_is_sorted(self):
        # The package has classes with orders of two kinds: it sorts only what plainly is names and numbers.
        for name, node in nodes(ast.Call):
            if called(node) == "sorted":
                self.assertEqual(called(node.args[0]), "set", f"{name}: {ast.unparse(node)}")
            if called(node) in ("min", "max"):
                self.assertTrue(all(called(part) == "len" for part in node.args), f"{name}: {ast.unparse(node)}")

    def test_sets(self):
        for name, tree in TREES.items():
            above = parents(tree)
            for _, node in nodes(ast.Call, tree):
                if called(node) == "set":
                    over = above[node]
                    while isinstance(over, ast.BinOp):
                        over = above[over]
                    self.assertIn(called(over), ("sorted", "len"), f"{name}: {ast.unparse(over)}")

    def test_what_is_reversed(self):
        # The package has classes with items.
        for name, node in nodes(ast.Call):
            if called(node) == "reversed":
                self.assertIn(called(node.args[0]), ("list", "tuple", "sorted", "range"), ast.unparse(node))

    def test_stars(self):
        for name, node in nodes(ast.Call):
            for at, part in enumerate(node.args):
                if isinstance(part, ast.Starred):
                    self.assertIsInstance(part.value, ast.Name, f"{name}: {ast.unparse(node)}")
                    self.assertEqual(at, len(node.args) - 1, f"{name}: {ast.unparse(node)}")


class Classes(unittest.TestCase):

    def test_bodies(self):
        for name, node in nodes(ast.ClassDef):
            self.assertIn(node, TREES[name].body)
            self.assertEqual((node.decorator_list, node.keywords), ([], []))
            for part in node.body:
                self.assertIsInstance(part, (ast.FunctionDef, ast.Assign, ast.Expr), node.name)
                if isinstance(part, ast.Assign):
                    self.assertTrue(is_plain(part.value), node.name)
                    self.assertNotIsInstance(part.value, (ast.List, ast.Dict), node.name)
            names = [part.name for part in node.body
                     if isinstance(part, ast.FunctionDef) and "setter" not in decorators(part)]
            self.assertEqual(len(names), len(set(names)), node.name)
            if "__getitem__" in names:
                self.assertIn("__iter__", names, node.name)

    def test_properties_that_are_set(self):
        setters = {part.name for _, _, part in functions() if "setter" in decorators(part)}
        self.assertEqual(setters, {"watchers"})
        stored = {node.attr for _, node in nodes(ast.Attribute) if isinstance(node.ctx, ast.Store)}
        self.assertFalse(setters & stored)

    def test_super(self):
        for name, node in nodes(ast.Name):
            if node.id == "super":
                rows = [row for _, _, function in functions() if function.name == "__init__" for row in function.body
                        if isinstance(row, ast.Expr) and node in ast.walk(row)]
                self.assertEqual(len(rows), 1, name)
                self.assertRegex(ast.unparse(rows[0]), r"^super\(\)\.__init__\(", name)

    def test_families(self):
        holders = {node.name: node for _, node in nodes(ast.ClassDef)}
        for name, node in nodes(ast.ClassDef):
            if name == "errors.py":
                continue
            self.assertLessEqual(len(node.bases), 1, node.name)
            for base in node.bases:
                family = [node, holders[base.id]]
                names = [part.name for one in family for part in one.body if isinstance(part, ast.FunctionDef)]
                self.assertFalse({"__lt__", "__le__", "__gt__", "__ge__", "__radd__"} & set(names), node.name)

    def test_methods_are_not_read_off_a_class(self):
        holders = {node.name for _, node in nodes(ast.ClassDef)}
        plain = {part.name for _, holder, part in functions() if holder and not decorators(part)}
        for name, node in nodes(ast.Attribute):
            if isinstance(node.value, ast.Name) and node.value.id in holders:
                self.assertNotIn(node.attr, plain, name)

    def test_decorators(self):
        for name, holder, function in functions():
            self.assertLessEqual(len(function.decorator_list), 1 if holder else 0, function.name)
            for word in decorators(function):
                self.assertIn(word, ("property", "setter", "classmethod", "staticmethod"), name)
                if word != "setter":
                    self.assertFalse(is_generator(function), function.name)

    def test_parameters(self):
        for name, holder, function in functions():
            for part in [*function.args.defaults, *[one for one in function.args.kw_defaults if one]]:
                self.assertTrue(is_plain(part) and not isinstance(part, (ast.List, ast.Dict)), function.name)
            if holder and function.name.startswith("__") and function.name not in ("__init__", "__call__"):
                found = [part.arg for part in function.args.args]
                self.assertEqual(found, PARAMETERS.get(function.name), f"{name}: {function.name}")
                self.assertEqual((function.args.defaults, function.args.vararg, function.args.kwarg), ([], None, None))
            if holder is None:
                self.assertFalse(function.name.startswith("__"), name)

    def rows(self, function):
        """The statements of a function without its docstring."""
        body = function.body
        return body[1:] if isinstance(body[0], ast.Expr) and isinstance(body[0].value, ast.Constant) else body

    def test_comparisons(self):
        for name, holder, function in functions():
            if function.name == "__eq__":
                first = self.rows(function)[0]
                wanted = f"if not isinstance(other, {holder.name}):\n    return False"
                self.assertEqual(ast.unparse(first), wanted, name)

    def test_texts_and_lengths(self):
        for name, _, function in functions():
            if function.name in ("__str__", "__repr__", "__len__"):
                self.assertIsInstance(self.rows(function)[-1], ast.Return, name)
                for _, node in nodes(ast.Return, function):
                    found = ast.unparse(node.value)
                    wanted = r"^len\(" if function.name == "__len__" else r"^(f?['\"]|str\()"
                    self.assertRegex(found, wanted, name)
                self.assertEqual(list(nodes((ast.Assign, ast.Add), function)), [], name)

    def test_iteration(self):
        for name, _, function in functions():
            if function.name == "__iter__":
                row = self.rows(function)
                self.assertEqual(len(row), 1, name)
                self.assertRegex(ast.unparse(row[0]), r"^(return iter\(self\.\w+\)|raise TypeError\('.*'\))$")
            if function.name == "__init__":
                self.assertEqual(list(nodes(ast.Return, function)), [], name)

    def test_leaving_a_block(self):
        for name, _, function in functions():
            if function.name == "__exit__":
                for row in function.body:
                    self.assertRegex(ast.unparse(row), r"^(\w+ = self\.\w+|\w+\.\w+ = (self\.)?\w+)$", name)

    def test_not_implemented(self):
        for name, tree in TREES.items():
            above = parents(tree)
            for _, node in nodes(ast.Name, tree):
                if node.id == "NotImplemented":
                    self.assertIsInstance(above[node], ast.Return, name)


class WhatOperatorsChange(unittest.TestCase):
    """Operators, properties, texts and lengths, and all that they call, change only what they made."""

    CHANGING = ("__init__", "__setitem__", "__enter__", "__exit__", "__call__", "__iadd__")

    def reached(self, free=CHANGING):
        """The functions that operators and properties call, by their names, through others too."""
        by_name = {}
        for _, holder, function in functions():
            by_name.setdefault(function.name, []).append(function)
            if holder and function.name == "__init__":
                by_name.setdefault(holder.name, []).append(function)
        waiting = [function for _, holder, function in functions() if holder and (
            "property" in decorators(function) or function.name.startswith("__") and function.name not in free)]
        found = []
        while waiting:
            function = waiting.pop()
            if function not in found:
                found.append(function)
                for _, node in nodes(ast.Call, function):
                    waiting.extend(by_name.get(called(node) or getattr(node.func, "attr", None), []))
        return found

    def made(self, function):
        """The names that a function only ever assigns new lists and dicts."""
        rows = {}
        for _, node in nodes(ast.Assign, function):
            for target in node.targets:
                if isinstance(target, ast.Name):
                    new = isinstance(node.value, LITERALS) or called(node.value) in ("list", "dict", "sorted")
                    rows.setdefault(target.id, []).append(new)
        barred = {part.arg for part in function.args.args}
        return {name for name, found in rows.items() if all(found)} - barred

    def test_changes(self):
        functions_reached = self.reached()
        self.assertIn("ascending", [function.name for function in functions_reached])
        for function in functions_reached:
            made = self.made(function)
            for _, node in nodes((ast.Call, ast.Subscript, ast.Attribute), function):
                changed = None
                if isinstance(node, ast.Call) and getattr(node.func, "attr", None) in CHANGES:
                    changed = node.func.value
                elif isinstance(node, ast.Subscript) and isinstance(node.ctx, (ast.Store, ast.Del)):
                    changed = node.value
                elif isinstance(node, ast.Attribute) and isinstance(node.ctx, ast.Store):
                    self.assertEqual((function.name, ast.unparse(node.value)), ("__init__", "self"))
                if changed is not None:
                    self.assertIn(ast.unparse(changed), made, function.name)
                    self.assertFalse(is_generator(function), function.name)

    def test_nothing_that_yields_is_run(self):
        reached = self.reached(free=())
        self.assertIn("first_misfit", [function.name for function in reached])
        for function in reached:
            self.assertFalse(is_generator(function), function.name)
            words = [called(node) or getattr(node.func, "attr", None) for _, node in nodes(ast.Call, function)]
            self.assertFalse(GENERATORS & set(words), function.name)

    def test_nothing_that_is_held_is_called(self):
        own = {function.name for _, holder, function in functions() if holder is None} | BUILTINS
        own |= {node.name for _, node in nodes(ast.ClassDef)}
        for function in self.reached():
            for _, node in nodes(ast.Call, function):
                if not isinstance(node.func, ast.Attribute):
                    self.assertTrue(called(node) in own or called(node) == "cls", ast.unparse(node))
