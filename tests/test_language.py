"""The code of the package keeps to LANGUAGE.md, as far as a look at its form can tell.

Each test's name begins with the rules, L1 to L28, that it looks at.
"""

import ast
import builtins
import io
import os
import re
import tokenize
import types
import unittest

import callwishes

FOLDER = os.path.dirname(os.path.abspath(callwishes.__file__))
PACKAGE = os.path.basename(FOLDER)

DUNDERS = set("""init eq repr str len enter exit call iter lt le gt ge ne add sub mul floordiv mod pow and or xor
lshift rshift radd rsub rmul rfloordiv rmod rand ror rxor rlshift rrshift iadd isub imul ifloordiv imod ipow iand ior
ixor ilshift irshift neg pos invert abs bool contains getitem setitem""".split())
FUNCTIONS = set("""len range enumerate zip min max sum abs sorted reversed int str bool bytes list tuple dict set
frozenset isinstance ord repr any all divmod""".split())
ERRORS = set("""Exception ValueError TypeError KeyError IndexError LookupError ZeroDivisionError ArithmeticError
OverflowError RuntimeError NotImplementedError AttributeError StopIteration NotImplemented""".split())
KINDS = {"int", "str", "bool", "bytes", "list", "tuple", "dict"}
METHODS = set("""append clear copy count endswith extend find get index insert isalnum isalpha isdigit islower isspace
isupper items join keys ljust lower lstrip partition pop remove replace reverse rfind rjust rpartition rsplit rstrip
setdefault split splitlines startswith strip update upper values zfill bit_length""".split())
MORE_METHODS = set("""title capitalize swapcase casefold center expandtabs removeprefix removesuffix rindex isascii
isdecimal isnumeric istitle isidentifier isprintable translate maketrans sort add discard encode decode hex fromhex
to_bytes from_bytes""".split())
BARRED_EVERYWHERE = set("register mro elements open input version_info with_traceback add_note".split())
BARRED_NAMES = set("""attrgetter breakpoint builtins compile copyright credits delattr dir eval exec exit gc getattr
globals hasattr help id importlib license locals methodcaller os quit setattr type vars""".split())
BARRED_WORDS = set("""type typing typing_extensions enum Enum IntEnum StrEnum Flag IntFlag Generic Protocol ABC ABCMeta
namedtuple NamedTuple TypedDict TYPE_CHECKING abstractmethod""".split())
FRAME_NAMES = {word for kind in (types.FrameType, types.TracebackType, types.CodeType, types.GeneratorType)
               for word in dir(kind) if re.match(r"(f|tb|co|gi)_", word)}
ON_THE_SPOT = {"zip", "enumerate", "reversed", "range"}
TAKERS = {"list", "tuple", "dict", "sorted", "sum", "any", "all", "enumerate", "zip", "bytes", "min", "max"}
FUNCTION_NODES = (ast.FunctionDef, ast.Lambda)
GATHERERS = {"list", "tuple", "dict", "sorted", "sum", "min", "max", "any", "all"}
VIEWS = {"items", "keys", "values"}
CHANGES = set("append clear extend insert pop remove reverse setdefault sort update add discard".split())


def read_files():
    """The text of each file of the package, by its module's name."""
    texts = {}
    for folder, folders, names in os.walk(FOLDER):
        folders[:] = sorted(name for name in folders if name != "__pycache__")
        for name in sorted(names):
            path = os.path.join(folder, name)
            with open(path, encoding="utf-8") as file:
                parts = os.path.relpath(path, os.path.dirname(FOLDER)).split(os.sep)
                texts[".".join(parts)] = file.read()
    return texts


TEXTS = read_files()
TREES = {name: ast.parse(text) for name, text in TEXTS.items() if name.endswith(".py")}


def module_file(module):
    """The file of a module, named as in TEXTS."""
    return module + ".__init__.py" if module + ".__init__.py" in TEXTS else module + ".py"


def nodes(*kinds):
    """(file, node) of all nodes of these kinds."""
    for name, tree in TREES.items():
        for node in ast.walk(tree):
            if isinstance(node, kinds):
                yield name, node


def with_parents():
    """(file, node, its parent) of all nodes."""
    for name, tree in TREES.items():
        for parent in ast.walk(tree):
            for node in ast.iter_child_nodes(parent):
                yield name, node, parent


def bound_by(statement):
    """The names that a statement at module level binds."""
    if isinstance(statement, (ast.FunctionDef, ast.ClassDef)):
        return [statement.name]
    if isinstance(statement, ast.ImportFrom):
        return [alias.asname or alias.name for alias in statement.names]
    if isinstance(statement, (ast.Assign, ast.AnnAssign)):
        targets = statement.targets if isinstance(statement, ast.Assign) else [statement.target]
        return [node.id for target in targets for node in ast.walk(target) if isinstance(node, ast.Name)]
    return []


def local_names(function):
    """Parameters, variables and nested functions of a function."""
    names = [node.arg for node in ast.walk(function) if isinstance(node, ast.arg)]
    for node in ast.walk(function):
        if isinstance(node, ast.Name) and isinstance(node.ctx, ast.Store):
            names.append(node.id)
        if isinstance(node, ast.FunctionDef) and node != function:
            names.append(node.name)
    return names


def functions_seen(name):
    """The own functions that a file can call by name, its own and imported ones."""
    seen = {}
    for part in TREES[name].body:
        if isinstance(part, ast.FunctionDef):
            seen[part.name] = part
        elif isinstance(part, ast.ImportFrom) and part.module != "__future__":
            for other in TREES[module_file(part.module)].body:
                for alias in part.names:
                    if isinstance(other, ast.FunctionDef) and other.name == alias.name:
                        seen[alias.asname or alias.name] = other
    return seen


def gone_over(node):
    """The names whose values a loop goes over, also through enumerate and the like."""
    if isinstance(node, ast.Name):
        return [node.id]
    if isinstance(node, ast.Call) and isinstance(node.func, ast.Attribute) and node.func.attr in VIEWS:
        return gone_over(node.func.value)
    if isinstance(node, ast.Call) and isinstance(node.func, ast.Name) and node.func.id in ON_THE_SPOT - {"range"}:
        return [name for part in node.args for name in gone_over(part)]
    return []


def changed_by(statements):
    """The names whose values the statements change: by items, +=, or methods."""
    names = []
    for node in (each for statement in statements for each in ast.walk(statement)):
        if isinstance(node, ast.Subscript) and not isinstance(node.ctx, ast.Load) and isinstance(node.value, ast.Name):
            names.append(node.value.id)
        if isinstance(node, ast.AugAssign) and isinstance(node.target, ast.Name):
            names.append(node.target.id)
        if isinstance(node, ast.Call) and isinstance(node.func, ast.Attribute) and node.func.attr in CHANGES:
            names += [node.func.value.id] if isinstance(node.func.value, ast.Name) else []
    return names


def own_methods():
    return {part.name for name, node in nodes(ast.ClassDef) for part in node.body if isinstance(part, ast.FunctionDef)}


class Language(unittest.TestCase):
    def at(self, name, node):
        return f"{name}, line {getattr(node, 'lineno', '?')}"

    def test_l1_l14_files_and_characters(self):
        self.assertLessEqual(len(TEXTS), 100)
        for name, text in TEXTS.items():
            self.assertRegex(name, r"^[a-z0-9_.]+\.py$")
            self.assertRegex(text, r"^[ -~\n]*\Z", name)
            last = name.split(".")[-2]
            self.assertNotIn(last, ("test", "tests", "testing", "site", "conftest", "sitecustomize", "usercustomize"))
            self.assertFalse(last.startswith(("law_", "test_")), name)
            self.assertTrue(last in ("__init__", "__main__") or not hasattr(builtins, last), name)

    def test_l2_l16_imports(self):
        seen = {}
        for name, node in nodes(ast.Import, ast.ImportFrom):
            self.assertIn(node, TREES[name].body, self.at(name, node))
            if isinstance(node, ast.Import):
                self.assertEqual([alias.name for alias in node.names], ["sys"])
                self.assertTrue(name.endswith("__main__.py"))
            elif node.module != "__future__":
                self.assertEqual(node.level, 0)
                self.assertEqual(node.module.split(".")[0], PACKAGE)
                target = TREES[module_file(node.module)]
                own = [part for part in target.body if not isinstance(part, ast.ImportFrom)]
                defined = [each for part in own for each in bound_by(part)]
                for alias in node.names:
                    self.assertIn(alias.name, defined, self.at(name, node))
                seen.setdefault(name, set()).add(module_file(node.module))
        self.check_no_rounds(seen)

    def check_no_rounds(self, seen):
        def beyond(name, way):
            self.assertNotIn(name, way)
            for other in seen.get(name, ()):
                beyond(other, way + (name,))
        for name in seen:
            beyond(name, ())

    def test_l2_imports_stand_at_the_top(self):
        for name, tree in TREES.items():
            is_past = False
            for at, statement in enumerate(tree.body):
                if isinstance(statement, ast.ImportFrom):
                    self.assertFalse(is_past, self.at(name, statement))
                elif not (at == 0 and isinstance(statement, ast.Expr)):
                    is_past = True

    def test_l3_l15_module_level(self):
        for name, tree in TREES.items():
            bound = [each for statement in tree.body for each in bound_by(statement)]
            self.assertEqual(len(bound), len(set(bound)), name)
            for at, statement in enumerate(tree.body):
                if isinstance(statement, ast.Assign):
                    self.assertEqual(len(statement.targets), 1)
                    self.check_plain(name, statement.value)
                elif isinstance(statement, ast.Expr):
                    self.assertEqual(at, 0, self.at(name, statement))
                    self.assertIsInstance(statement.value, ast.Constant)
                elif not name.endswith("__main__.py"):
                    self.assertIsInstance(statement, (ast.ImportFrom, ast.FunctionDef, ast.ClassDef, ast.AnnAssign))

    def check_plain(self, name, value):
        barred = (ast.Call, ast.ListComp, ast.SetComp, ast.DictComp, ast.GeneratorExp, ast.Set, ast.Lambda,
                  ast.JoinedStr, ast.Attribute, ast.NamedExpr)
        for node in ast.walk(value):
            self.assertNotIsInstance(node, barred, self.at(name, value))
            if node is not value and isinstance(value, (ast.List, ast.Dict)):
                self.assertNotIsInstance(node, (ast.List, ast.Dict), self.at(name, value))

    def test_l4_l5_functions_and_classes(self):
        allowed = {"property", "staticmethod", "classmethod"}
        for name, node in nodes(ast.FunctionDef, ast.ClassDef):
            for mark in node.decorator_list:
                self.assertIsInstance(node, ast.FunctionDef, self.at(name, node))
                is_setter = isinstance(mark, ast.Attribute) and mark.attr == "setter"
                self.assertTrue(is_setter or (isinstance(mark, ast.Name) and mark.id in allowed), self.at(name, node))
        for name, node in nodes(ast.arguments):
            self.assertEqual(node.posonlyargs, [])
        for name, node, parent in with_parents():
            if isinstance(node, ast.ClassDef):
                self.assertIsInstance(parent, ast.Module, self.at(name, node))
            if isinstance(node, ast.FunctionDef) and node.name.startswith("__"):
                self.assertIsInstance(parent, ast.ClassDef, self.at(name, node))
                self.assertIn(node.name[2:-2], DUNDERS, self.at(name, node))

    def test_l6_l7_statements_and_values(self):
        for name, node in nodes(ast.AST):
            self.assertNotIsInstance(node, (ast.Global, ast.AsyncFunctionDef, ast.AsyncFor, ast.AsyncWith, ast.Await,
                                            ast.Div, ast.MatMult), self.at(name, node))
            if isinstance(node, ast.Constant):
                self.assertNotIsInstance(node.value, (float, complex), self.at(name, node))

    def test_l7_generator_expressions(self):
        for name, node, parent in with_parents():
            if isinstance(node, ast.GeneratorExp):
                self.assertIsInstance(parent, ast.Call, self.at(name, node))
                is_join = isinstance(parent.func, ast.Attribute) and parent.func.attr == "join"
                self.assertTrue(is_join or parent.func.id in GATHERERS, self.at(name, node))

    def test_l7_comprehensions_are_short(self):
        for name, node in nodes(ast.ListComp, ast.SetComp, ast.DictComp, ast.GeneratorExp):
            self.assertLessEqual(len(node.generators), 6, self.at(name, node))
            self.assertLessEqual(sum(len(part.ifs) for part in node.generators), 12, self.at(name, node))

    def test_l8_l22_builtins(self):
        for name, node, parent in with_parents():
            if not isinstance(node, ast.Name) or not hasattr(builtins, node.id):
                continue
            where = self.at(name, node)
            self.assertIsInstance(node.ctx, ast.Load, where)
            if name.endswith("__main__.py") and node.id == "print":
                continue
            self.assertIn(node.id, FUNCTIONS | ERRORS | {"property", "staticmethod", "classmethod", "super"}, where)
            if node.id in FUNCTIONS - KINDS:
                is_key = isinstance(parent, ast.keyword) and parent.arg == "key"
                self.assertTrue(is_key or (isinstance(parent, ast.Call) and parent.func is node), where)

    def test_l8_l12_l17_names(self):
        for name, node in nodes(ast.AST):
            for field in ("id", "attr", "arg", "name", "asname"):
                word = getattr(node, field, None)
                if not isinstance(word, str):
                    continue
                where = self.at(name, node)
                self.assertNotIn(word, BARRED_EVERYWHERE, where)
                self.assertNotIn(word, FRAME_NAMES, where)
                if field != "attr":
                    self.assertNotIn(word, BARRED_NAMES, where)
                if not re.match(r"__(\w+)__\Z", word):
                    self.assertRegex(word, r"^[A-Za-z][A-Za-z0-9_.]*\Z", where)
                elif word not in ("__all__", "__version__", "__name__"):
                    self.assertIn(word[2:-2], DUNDERS, where)

    def test_l9_no_input_or_output(self):
        for name, node in nodes(ast.Name):
            if node.id in ("print", "sys"):
                self.assertTrue(name.endswith("__main__.py"), self.at(name, node))

    def test_l10_size(self):
        for name, text in TEXTS.items():
            rows = text.split("\n")
            self.assertLessEqual(len(rows), 401, name)
            for at, row in enumerate(rows):
                self.assertLessEqual(len(row), 120, (name, at + 1))
        for name, node in nodes(ast.FunctionDef):
            self.assertLessEqual(node.end_lineno - node.lineno + 1, 40, self.at(name, node))

    def test_l11_l24_sets(self):
        for name, node in nodes(ast.For, ast.comprehension):
            is_call = isinstance(node.iter, ast.Call) and isinstance(node.iter.func, ast.Name)
            self.assertFalse(is_call and node.iter.func.id in ("set", "frozenset"), name)
            self.assertNotIsInstance(node.iter, (ast.Set, ast.SetComp), name)

    def test_l24_where_sets_stand(self):
        for name, node, parent in with_parents():
            is_made = isinstance(node, ast.Call) and getattr(node.func, "id", "") == "set"
            if is_made or isinstance(node, (ast.SetComp, ast.Set)):
                is_asked = isinstance(parent, ast.Call) and getattr(parent.func, "id", "") in ("len", "sorted")
                is_stored = isinstance(parent, ast.Assign) and isinstance(parent.targets[0], ast.Name)
                self.assertTrue(is_asked or is_stored or isinstance(parent, (ast.Compare, ast.BinOp)),
                                self.at(name, node))

    def test_l15_no_local_name_hides_another(self):
        for name, tree in TREES.items():
            imported = [each for part in tree.body if isinstance(part, ast.ImportFrom) for each in bound_by(part)]
            classes = [part.name for part in tree.body if isinstance(part, ast.ClassDef)]
            for node in ast.walk(tree):
                if isinstance(node, FUNCTION_NODES):
                    for word in local_names(node):
                        self.assertNotIn(word, imported + classes, self.at(name, node))
                        self.assertFalse(hasattr(builtins, word), self.at(name, node) + " " + word)

    def test_l15_tables_are_only_read(self):
        for name, tree in TREES.items():
            tables = {part.targets[0].id for part in tree.body
                      if isinstance(part, ast.Assign) and isinstance(part.value, (ast.List, ast.Dict))}
            for node in ast.walk(tree):
                if isinstance(node, ast.Subscript) and isinstance(node.value, ast.Name) and node.value.id in tables:
                    self.assertIsInstance(node.ctx, ast.Load, self.at(name, node))
                if isinstance(node, ast.Attribute) and isinstance(node.value, ast.Name) and node.value.id in tables:
                    self.assertNotIn(node.attr, CHANGES, self.at(name, node))

    def test_l17_words(self):
        for name, text in TEXTS.items():
            self.assertEqual(BARRED_WORDS & set(re.findall(r"\w+", text)), set(), name)
            for part in ("dataclass", "overload", "contextmanager"):
                self.assertNotIn(part, text, name)

    def test_l18_l26_methods_and_attributes(self):
        of_builtins = {word for kind in (str, int, list, dict, set, bytes) for word in dir(kind) if word[0] != "_"}
        methods = own_methods()
        assigned = {node.attr for name, node in nodes(ast.Attribute) if isinstance(node.ctx, ast.Store)}
        self.assertEqual(methods & assigned, set())
        plain = {word for word in methods if not word.startswith("__")}
        self.assertEqual(plain & of_builtins - METHODS - {"add", "discard"}, set())
        free = set("count index title find get join lower upper split strip copy add".split())
        self.assertEqual(assigned & of_builtins - free, set())
        self.assertNotIn("args", assigned)

    def test_l18_attributes_that_are_read_are_assigned(self):
        assigned = {node.attr for name, node in nodes(ast.Attribute) if isinstance(node.ctx, ast.Store)}
        for name, node, parent in with_parents():
            if isinstance(node, ast.Attribute) and isinstance(node.ctx, ast.Load):
                if not (isinstance(parent, ast.Call) and parent.func is node):
                    self.assertIn(node.attr, assigned, self.at(name, node))

    def test_l19_errors(self):
        for name, node in nodes(ast.ExceptHandler):
            self.assertIsNotNone(node.type, self.at(name, node))
            caught = [each.id for each in ast.walk(node.type) if isinstance(each, ast.Name)]
            self.assertTrue(caught and not {"Exception", "TypeError"} & set(caught), self.at(name, node))
        for name, node in nodes(ast.Raise):
            if node.exc is not None:
                self.assertIsInstance(node.exc, (ast.Call, ast.Name), self.at(name, node))

    def test_l20_is(self):
        for name, node in nodes(ast.Compare):
            for sign, side in zip(node.ops, node.comparators):
                if isinstance(sign, (ast.Is, ast.IsNot)):
                    self.assertTrue(isinstance(side, ast.Constant) and repr(side.value) in ("None", "True", "False"),
                                    self.at(name, node))

    def test_l21_annotations_have_values(self):
        for name, node in nodes(ast.AnnAssign):
            self.assertIsNotNone(node.value, self.at(name, node))

    def test_l22_keywords_and_isinstance(self):
        allowed = {"sorted": {"key", "reverse"}, "min": {"key", "default"}, "max": {"key", "default"},
                   "sum": {"start"}, "enumerate": {"start"}, "zip": {"strict"}}
        for name, node in nodes(ast.Call):
            if isinstance(node.func, ast.Name) and node.func.id in FUNCTIONS:
                words = {keyword.arg for keyword in node.keywords}
                self.assertLessEqual(words, allowed.get(node.func.id, set()), self.at(name, node))

    def test_l22_calls_pass_what_is_taken(self):
        for name in TREES:
            seen = functions_seen(name)
            for node in ast.walk(TREES[name]):
                if not isinstance(node, ast.Call) or getattr(node.func, "id", "") not in seen:
                    continue
                if any(isinstance(part, ast.Starred) for part in node.args):
                    continue
                taken = seen[node.func.id].args
                many = len(node.args) + len(node.keywords)
                words = [part.arg for part in taken.args + taken.kwonlyargs]
                self.assertLessEqual({part.arg for part in node.keywords}, set(words), self.at(name, node))
                if taken.vararg is None and taken.kwarg is None:
                    self.assertLessEqual(many, len(words), self.at(name, node))
                    self.assertGreaterEqual(many, len(taken.args) - len(taken.defaults), self.at(name, node))

    def test_l23_loops_dont_change_what_they_go_over(self):
        for name, node in nodes(ast.For):
            self.assertEqual(set(gone_over(node.iter)) & set(changed_by(node.body)), set(), self.at(name, node))
        for name, node in nodes(ast.ListComp, ast.SetComp, ast.DictComp, ast.GeneratorExp):
            names = {each for part in node.generators for each in gone_over(part.iter)}
            statements = [part for part in ast.iter_child_nodes(node)]
            self.assertEqual(names & set(changed_by(statements)), set(), self.at(name, node))

    def test_l23_iterated_on_the_spot(self):
        for name, node, parent in with_parents():
            if not isinstance(node, ast.Call) or not isinstance(node.func, ast.Name) or node.func.id not in ON_THE_SPOT:
                continue
            is_looped = isinstance(parent, (ast.For, ast.comprehension)) and parent.iter is node
            is_taken = isinstance(parent, ast.Call) and (
                getattr(parent.func, "id", "") in TAKERS or getattr(parent.func, "attr", "") == "join")
            asker = getattr(getattr(parent, "func", None), "id", "")
            is_range = node.func.id == "range" and (isinstance(parent, ast.Compare) or asker in ("len", "reversed"))
            self.assertTrue(is_looped or is_taken or is_range, self.at(name, node))

    def test_l25_methods(self):
        own = own_methods()
        for name, node in nodes(ast.Call):
            if isinstance(node.func, ast.Attribute):
                self.assertIn(node.func.attr, METHODS | MORE_METHODS | own | {"__init__"}, self.at(name, node))

    def test_l13_l27_numbers_and_strings(self):
        for name, node in nodes(ast.BinOp):
            if isinstance(node.op, ast.Pow):
                self.assertIsInstance(node.right, ast.Constant, self.at(name, node))
                self.assertIn(node.right.value, range(65), self.at(name, node))
        for name, node, parent in with_parents():
            if isinstance(node, ast.Set) and not isinstance(parent, ast.Compare):
                numbers = [part for part in node.elts if isinstance(getattr(part, "value", None), int)]
                self.assertLess(len(numbers), 3, self.at(name, node))
        for name, text in TEXTS.items():
            for token in tokenize.generate_tokens(io.StringIO(text).readline):
                if token.type == tokenize.STRING:
                    self.assertNotIn("%", token.string, (name, token.start))
                    if not re.match(r"[bB]", token.string):
                        for escape in re.findall(r"\\(.)", token.string):
                            self.assertIn(escape, "nt\\'\"", (name, token.start))

    def test_l28_double_underscore_methods(self):
        for name, node in nodes(ast.FunctionDef):
            if node.name == "__init__":
                for part in ast.walk(node):
                    if isinstance(part, ast.Return):
                        self.assertIsNone(part.value, self.at(name, part))


if __name__ == "__main__":
    unittest.main()
