"""Rules of LANGUAGE.md that can be seen in the syntax trees of the package's files."""

import ast
import builtins
import functools
import pathlib
import re
import unittest

PACKAGE = pathlib.Path(__file__).resolve().parent.parent / "cornerways"

BUILTINS = set("""len range enumerate zip min max sum abs sorted reversed int str bool bytes list tuple dict set frozenset
    isinstance ord repr any all divmod iter next Exception ValueError TypeError KeyError IndexError LookupError
    ZeroDivisionError ArithmeticError OverflowError RuntimeError NotImplementedError AttributeError StopIteration
    NotImplemented property staticmethod classmethod super""".split())

METHODS = set("""append clear copy count endswith extend find get index insert isalnum isalpha isdigit islower isspace
    isupper items join keys ljust lower lstrip partition pop remove replace reverse rfind rjust rpartition rsplit rstrip
    setdefault split splitlines startswith strip update upper values zfill bit_length sort title capitalize swapcase
    casefold center expandtabs removeprefix removesuffix rindex isascii isdecimal isnumeric istitle isidentifier
    isprintable translate add discard""".split())

SPECIAL = set("""__init__ __eq__ __repr__ __str__ __len__ __enter__ __exit__ __call__ __iter__ __bool__ __contains__
    __getitem__ __setitem__""".split())

WORDS = set("""type typing typing_extensions enum Enum IntEnum StrEnum Flag IntFlag Generic Protocol ABC ABCMeta
    namedtuple NamedTuple TypedDict TYPE_CHECKING abstractmethod""".split())

UNUSED = set("""register mro elements open input law version_info with_traceback add_note attrgetter breakpoint builtins
    compile copyright credits delattr dir eval exec exit gc getattr globals hasattr help id importlib license locals
    methodcaller os quit setattr type vars sys""".split())

BARRED_NODES = (ast.Global, ast.AsyncFunctionDef, ast.AsyncFor, ast.AsyncWith, ast.Await, ast.Div, ast.MatMult,
                ast.Import, ast.TryStar)


@functools.lru_cache(maxsize=None)
def files():
    return sorted(path for path in PACKAGE.rglob("*") if path.is_file() and "__pycache__" not in path.parts)


@functools.lru_cache(maxsize=None)
def trees():
    return [(path.name, ast.parse(path.read_text())) for path in files()]


@functools.lru_cache(maxsize=None)
def nodes(*kinds):
    return [(name, node) for name, tree in trees() for node in ast.walk(tree) if isinstance(node, kinds)]


def functions():
    return nodes(ast.FunctionDef)


def bound_names(tree):
    for node in ast.walk(tree):
        if isinstance(node, (ast.FunctionDef, ast.ClassDef)):
            yield node.name
        elif isinstance(node, ast.arg):
            yield node.arg
        elif isinstance(node, ast.Name) and not isinstance(node.ctx, ast.Load):
            yield node.id
        elif isinstance(node, ast.alias):
            yield node.asname or node.name
        elif isinstance(node, ast.ExceptHandler) and node.name:
            yield node.name


@functools.lru_cache(maxsize=None)
def own_methods():
    return {node.name for name, made in nodes(ast.ClassDef) for node in made.body if isinstance(node, ast.FunctionDef)}


@functools.lru_cache(maxsize=None)
def own_attributes():
    return {node.attr for name, node in nodes(ast.Attribute) if isinstance(node.ctx, ast.Store)}


class Files(unittest.TestCase):

    def test_the_package_is_one_folder_of_files_with_plain_names(self):
        self.assertIn("__init__.py", [path.name for path in files()])
        self.assertLessEqual(len(files()), 100)
        for path in files():
            self.assertEqual(path.parent, PACKAGE)
            self.assertRegex(path.name, r"\A([a-z][a-z0-9_]*|__init__|__main__)\.py\Z")
            self.assertNotIn(path.stem, set(dir(builtins)) | WORDS | {"test", "tests", "testing", "site", "conftest"})

    def test_characters_and_sizes(self):
        for path in files():
            text = path.read_bytes().decode("ascii")
            self.assertRegex(text, r"\A[ -~\n]*\Z")
            lines = text.split("\n")
            self.assertLessEqual(len(lines), 400, path.name)
            self.assertLessEqual(max(len(line) for line in lines), 120, path.name)

    def test_words_that_do_not_occur(self):
        for path in files():
            text = path.read_text()
            self.assertEqual(set(re.findall(r"\w+", text)) & WORDS, set(), path.name)
            self.assertIsNone(re.search("dataclass|overload|contextmanager", text), path.name)

    def test_functions_have_at_most_forty_lines(self):
        for name, node in functions():
            self.assertLessEqual(node.end_lineno - node.lineno + 1, 40, node.name)


class Modules(unittest.TestCase):

    def test_imports_name_the_file_that_defines_the_name(self):
        for name, node in nodes(ast.ImportFrom):
            self.assertEqual(node.level, 0, name)
            self.assertRegex(node.module, r"\Acornerways\.[a-z_]+\Z")
            tree = ast.parse((PACKAGE / f"{node.module.split('.')[1]}.py").read_text())
            defined = {row.name for row in tree.body if isinstance(row, (ast.FunctionDef, ast.ClassDef))}
            defined |= {row.targets[0].id for row in tree.body if isinstance(row, ast.Assign)}
            self.assertLessEqual({alias.name for alias in node.names}, defined, name)

    def test_no_two_files_import_from_each_other(self):
        above = {}
        for name, node in nodes(ast.ImportFrom):
            above.setdefault(name, set()).add(node.module.split(".")[1] + ".py")
        left = {path.name for path in files()}
        while left:
            free = {name for name in left if not above.get(name, set()) & left}
            self.assertTrue(free, left)
            left -= free

    def test_module_level(self):
        for name, tree in trees():
            rows = tree.body[1:] if ast.get_docstring(tree) else tree.body
            for row in rows:
                self.assertIsInstance(row, (ast.ImportFrom, ast.FunctionDef, ast.ClassDef, ast.Assign), name)
                if isinstance(row, ast.Assign):
                    self.assertEqual([type(target) for target in row.targets], [ast.Name])
                    self.assertFalse([node for node in ast.walk(row.value) if isinstance(node, (ast.Call, ast.Lambda))])

    def test_each_name_is_bound_once(self):
        for name, tree in trees():
            bound = [made for row in tree.body for made in bound_names_of_row(row)]
            self.assertEqual(len(set(bound)), len(bound), name)
            outer = {made for row in tree.body if isinstance(row, (ast.ImportFrom, ast.ClassDef))
                     for made in bound_names_of_row(row)}
            inner = [made for node in ast.walk(tree) if isinstance(node, ast.FunctionDef)
                     for row in [node.args] + node.body for made in bound_names(row)]
            self.assertEqual(outer & set(inner), set(), name)


def bound_names_of_row(row):
    if isinstance(row, (ast.FunctionDef, ast.ClassDef)):
        return [row.name]
    if isinstance(row, ast.ImportFrom):
        return [alias.asname or alias.name for alias in row.names]
    return [target.id for target in row.targets] if isinstance(row, ast.Assign) else []


class Names(unittest.TestCase):

    def test_plain_names(self):
        for name, tree in trees():
            for bound in bound_names(tree):
                if bound not in SPECIAL:
                    self.assertRegex(bound, r"\A[A-Za-z][A-Za-z0-9_]*\Z")
                    self.assertNotIn(bound, UNUSED | set(dir(builtins)) - own_methods())
        for attribute in own_attributes() | own_methods() - SPECIAL:
            self.assertRegex(attribute, r"\A[A-Za-z][A-Za-z0-9_]*\Z")

    def test_builtins(self):
        for name, node in nodes(ast.Name):
            if node.id in dir(builtins):
                self.assertIn(node.id, BUILTINS, name)

    def test_methods_and_attributes(self):
        self.assertEqual(own_methods() & own_attributes(), set())
        for name, node in nodes(ast.Attribute):
            if node.attr != "__init__":
                self.assertIn(node.attr, own_methods() | own_attributes() | METHODS, name)

    def test_special_methods_and_decorators(self):
        for name, node in functions():
            if node.name.startswith("__"):
                self.assertIn(node.name, SPECIAL)
            for row in node.decorator_list:
                plain = isinstance(row, ast.Name) and row.id in ("property", "staticmethod", "classmethod")
                self.assertTrue(plain or isinstance(row, ast.Attribute) and row.attr == "setter", node.name)


class Statements(unittest.TestCase):

    def test_what_does_not_stand_in_the_package(self):
        self.assertEqual([(name, node) for name, node in nodes(*BARRED_NODES)], [])

    def test_constants(self):
        for name, node in nodes(ast.Constant):
            self.assertIn(type(node.value), (int, str, bytes, bool, type(None)), name)
            if isinstance(node.value, str):
                self.assertNotIn("%", node.value)
                self.assertIsNone(re.search(r"\._?_\Z", node.value) or re.search(r"\A__.*__\Z", node.value))

    def test_is_stands_beside_none_and_truths_alone(self):
        for name, node in nodes(ast.Compare):
            for sign, right in zip(node.ops, node.comparators):
                if isinstance(sign, (ast.Is, ast.IsNot)):
                    self.assertIsInstance(right, ast.Constant, name)
                    self.assertIsInstance(right.value, (bool, type(None)), name)

    def test_sets_stand_in_sorted_and_len_alone(self):
        rows = [(name, node) for name, node in nodes(ast.Call) if getattr(node.func, "id", "") in ("sorted", "len")]
        allowed = [argument for name, node in rows for argument in node.args]
        places = {(row.lineno, row.col_offset) for row in allowed}
        for name, node in nodes(ast.Set, ast.SetComp, ast.Call):
            if not isinstance(node, ast.Call) or getattr(node.func, "id", "") in ("set", "frozenset"):
                self.assertIn((node.lineno, node.col_offset), places, name)

    def test_generator_expressions_give_way_to_lists(self):
        self.assertEqual(nodes(ast.GeneratorExp, ast.Yield, ast.YieldFrom), [])

    def test_raised_are_own_errors_made_on_the_spot(self):
        classes = {node.name for name, node in nodes(ast.ClassDef)}
        for name, node in nodes(ast.Raise):
            if node.exc is not None:
                self.assertIn(node.exc.func.id, classes | BUILTINS, name)

    def test_caught_are_own_errors(self):
        classes = {node.name for name, node in nodes(ast.ClassDef)}
        for name, node in nodes(ast.ExceptHandler):
            kinds = node.type.elts if isinstance(node.type, ast.Tuple) else [node.type]
            self.assertLessEqual({kind.id for kind in kinds}, classes, name)

    def test_module_level_dicts_and_lists_are_not_passed_on(self):
        for name, tree in trees():
            for row in tree.body:
                if isinstance(row, ast.Assign):
                    self.assertNotIsInstance(row.value, (ast.Dict, ast.List, ast.Set), name)


class Operators(unittest.TestCase):

    def methods(self, made):
        return {row.name: row for row in made.body if isinstance(row, ast.FunctionDef)}

    def test_a_class_with_items_is_not_iterated(self):
        with_items = [made for name, made in nodes(ast.ClassDef) if "__getitem__" in self.methods(made)]
        self.assertTrue(with_items)
        for made in with_items:
            rows = self.methods(made)["__iter__"].body
            self.assertEqual([len(rows), type(rows[0]), rows[0].exc.func.id], [1, ast.Raise, "TypeError"])
        self.assertNotIn("keys", own_methods() | own_attributes())

    def test_the_rows_of_exit(self):
        exits = [node for name, node in functions() if node.name == "__exit__"]
        self.assertTrue(exits)
        for node in exits:
            for row in ast.walk(node):
                if isinstance(row, ast.stmt) and row is not node:
                    self.assertIsInstance(row, (ast.Assign, ast.If))
                if isinstance(row, ast.If):
                    self.assertRegex(ast.unparse(row.test), r"\Akind is (not )?None\Z")
                if isinstance(row, ast.Assign):
                    self.assertTrue(all(isinstance(part, ast.Attribute) for part in row.targets + [row.value]))

    def test_truth_and_length(self):
        for name, node in functions():
            if node.name == "__len__":
                self.assertRegex(ast.unparse(node.body[-1]), r"\Areturn len\(.*\)\Z")
            if node.name == "__bool__":
                self.assertEqual(ast.unparse(node.body[-1]), "return True")

    def test_reversed_and_sort(self):
        for name, node in nodes(ast.Call):
            if getattr(node.func, "id", "") == "reversed":
                self.assertIn(node.args[0].func.id, ("list", "tuple", "sorted", "range"), name)
            self.assertNotEqual(getattr(node.func, "attr", ""), "sort", name)

    def test_operators_are_written_by_their_signs(self):
        for name, node in nodes(ast.Attribute):
            self.assertFalse(node.attr.startswith("__"), (name, node.attr))
