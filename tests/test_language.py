"""Guards the rules of the Python subset that a reading of the syntax tree can see."""

import ast
import builtins
import io
import tokenize
import unittest
from pathlib import Path

PACKAGE = Path(__file__).resolve().parent.parent / "heardquotes"
FILES = sorted(PACKAGE.glob("*.py"))
LIBRARY = {"math": {"gcd", "lcm", "isqrt", "comb", "perm", "factorial"},
           "heapq": {"heappush", "heappop", "heapify", "heapreplace", "heappushpop"},
           "itertools": {"product", "combinations", "permutations"}}
BUILTINS = set("""len range enumerate zip min max sum abs sorted reversed int str bool bytes list tuple dict set
    frozenset isinstance ord repr any all divmod iter next map Exception ValueError TypeError KeyError IndexError
    LookupError ZeroDivisionError ArithmeticError OverflowError RuntimeError NotImplementedError
    NotImplemented""".split())
METHODS = set("""append clear copy count endswith extend find get index insert isalnum isalpha isdigit islower
    isspace isupper items join keys ljust lower lstrip partition pop remove replace reverse rfind rjust rpartition
    rsplit rstrip setdefault split splitlines startswith strip update upper values zfill bit_length""".split())
BARRED_NAMES = set("register mro elements open input law version_info with_traceback add_note".split())
BARRED_WORDS = set("""type typing typing_extensions enum Enum IntEnum StrEnum Flag IntFlag Generic Protocol ABC
    ABCMeta namedtuple NamedTuple TypedDict TYPE_CHECKING abstractmethod""".split())
DOUBLE = set("""init eq repr str len enter exit call iter lt le gt ge ne add sub mul floordiv mod pow and or xor
    lshift rshift radd rsub rmul rfloordiv rmod rand ror rxor rlshift rrshift iadd isub imul neg pos invert abs bool
    contains getitem setitem""".split())
BARRED_NODES = (ast.GeneratorExp, ast.Global, ast.AsyncFunctionDef, ast.AsyncFor, ast.AsyncWith, ast.Await,
                ast.Import, ast.Div, ast.MatMult, ast.AnnAssign, ast.Yield, ast.YieldFrom, ast.Match)
# An example that was run leaves its last value there as _.
TAKEN = set(dir(builtins)) - {"_"}
MODULE_LEVEL = (ast.ImportFrom, ast.FunctionDef, ast.ClassDef, ast.Assign)
DESK_CHANGES = ("__setitem__", "__enter__", "__exit__", "again", "do", "_undo", "_redo", "do_all", "copy")
OWN_OBJECTS = (ast.List, ast.ListComp, ast.Dict)


def parsed(path):
    tree = ast.parse(path.read_text())
    for parent in ast.walk(tree):
        for child in ast.iter_child_nodes(parent):
            child.parent = parent
    return tree


TREES = {path.stem: parsed(path) for path in FILES}


def nodes(kind):
    for stem, tree in TREES.items():
        for node in ast.walk(tree):
            if isinstance(node, kind):
                yield stem, node


def functions():
    yield from nodes(ast.FunctionDef)


def own_methods():
    return {item.name for _, node in nodes(ast.ClassDef) for item in node.body if isinstance(item, ast.FunctionDef)}


def bound_names(function):
    spec = function.args
    names = [arg.arg for arg in spec.posonlyargs + spec.args + spec.kwonlyargs]
    for node in ast.walk(function):
        if isinstance(node, ast.Name) and isinstance(node.ctx, ast.Store):
            names.append(node.id)
    return names


def is_docstring(node):
    return isinstance(node.parent, ast.Expr)


class Language(unittest.TestCase):
    def say(self, stem, node):
        return f"{stem}.py:{getattr(node, 'lineno', 0)}"

    def test_files(self):
        self.assertTrue(FILES)
        for path in PACKAGE.iterdir():
            if path.name != "__pycache__":
                self.assertRegex(path.name, r"^[a-z_]+\.py$")
        for path in FILES:
            text = path.read_text()
            self.assertTrue(all(sign == "\n" or " " <= sign <= "~" for sign in text), path)
            lines = text.splitlines()
            self.assertLessEqual(len(lines), 399, path)
            self.assertLessEqual(max([len(line) for line in lines], default=0), 120, path)
            for word in ["(type)", "Meta", "metaclass=", "_wall"]:
                self.assertNotIn(word, text, path)

    def test_size_of_functions(self):
        for stem, node in functions():
            self.assertLessEqual(node.end_lineno - node.lineno + 1, 40, self.say(stem, node))

    def test_module_level(self):
        for stem, tree in TREES.items():
            bound = []
            for at, node in enumerate(tree.body):
                if at == 0 and isinstance(node, ast.Expr):
                    continue
                self.assertIsInstance(node, MODULE_LEVEL, self.say(stem, node))
                if isinstance(node, ast.ImportFrom):
                    bound += [alias.name for alias in node.names]
                elif isinstance(node, ast.Assign):
                    self.assertEqual(len(node.targets), 1)
                    bound.append(node.targets[0].id)
                else:
                    bound.append(node.name)
            self.assertEqual(len(bound), len(set(bound)), stem)
            self.assertFalse(set(bound) & TAKEN, stem)

    def test_imports(self):
        below = {}
        for stem, tree in TREES.items():
            below[stem] = set()
            for node in ast.walk(tree):
                if not isinstance(node, ast.ImportFrom):
                    continue
                self.assertIs(node.parent, tree)
                self.assertEqual(node.level, 0)
                names = {alias.name for alias in node.names}
                self.assertTrue(all(alias.asname is None for alias in node.names))
                if node.module in LIBRARY:
                    self.assertLessEqual(names, LIBRARY[node.module])
                    continue
                package, module = node.module.split(".")
                self.assertEqual(package, "heardquotes")
                defined = {item.name for item in TREES[module].body if hasattr(item, "name")}
                defined |= {item.targets[0].id for item in TREES[module].body if isinstance(item, ast.Assign)}
                self.assertLessEqual(names, defined, self.say(stem, node))
                used = {item.id for item in ast.walk(tree) if isinstance(item, ast.Name)}
                self.assertLessEqual(names, used, self.say(stem, node))
                below[stem].add(module)
        for stem in below:
            waiting, seen = list(below[stem]), set()
            while waiting:
                module = waiting.pop()
                self.assertNotEqual(module, stem, "files import from each other")
                if module not in seen:
                    seen.add(module)
                    waiting.extend(below[module])

    def test_barred_nodes(self):
        for stem, node in nodes(BARRED_NODES):
            self.fail(f"{self.say(stem, node)} {node.__class__.__name__}")

    def test_only_own_errors_are_caught(self):
        own = {node.name for node in TREES["errors"].body if isinstance(node, ast.ClassDef)}
        for stem, node in nodes(ast.Try):
            self.assertFalse(node.finalbody or node.orelse, self.say(stem, node))
        for stem, node in nodes(ast.ExceptHandler):
            caught = node.type.elts if isinstance(node.type, ast.Tuple) else [node.type]
            self.assertLessEqual({item.id for item in caught}, own, self.say(stem, node))

    def test_raised_errors_are_created_on_the_spot(self):
        own = {node.name for node in TREES["errors"].body if isinstance(node, ast.ClassDef)}
        for stem, node in nodes(ast.Raise):
            self.assertIn(node.exc.func.id, own | {"TypeError"}, self.say(stem, node))

    def test_functions_of_tables_get_a_name_before_they_are_called(self):
        for stem, node in nodes(ast.Call):
            self.assertIsInstance(node.func, (ast.Name, ast.Attribute), self.say(stem, node))

    def test_tables_have_functions_of_their_own_file(self):
        for stem, tree in TREES.items():
            defined = {node.name for node in tree.body if isinstance(node, ast.FunctionDef)}
            for node in tree.body:
                if isinstance(node, ast.Assign):
                    names = {item.id for item in ast.walk(node.value) if isinstance(item, ast.Name)}
                    self.assertLessEqual(names, defined, self.say(stem, node))
                    self.assertFalse([item for item in ast.walk(node.value) if isinstance(item, ast.Lambda)])

    def test_leaving_a_block_only_assigns_attributes(self):
        for stem, node in functions():
            if node.name == "__exit__":
                for row in node.body:
                    self.assertIsInstance(row, ast.Assign, self.say(stem, row))
                    self.assertIsInstance(row.targets[0], ast.Attribute, self.say(stem, row))
                    self.assertIsInstance(row.value, ast.Attribute, self.say(stem, row))

    def test_constants(self):
        for stem, node in nodes(ast.Constant):
            self.assertNotIsInstance(node.value, (float, complex), self.say(stem, node))
            if isinstance(node.value, str):
                self.assertNotIn("%", node.value, self.say(stem, node))
                if not is_docstring(node):
                    self.assertFalse(set(node.value.split()) & BARRED_WORDS, self.say(stem, node))
                    self.assertNotIn("__", node.value, self.say(stem, node))

    def test_escapes(self):
        for path in FILES:
            for token in tokenize.generate_tokens(io.StringIO(path.read_text()).readline):
                if token.type == tokenize.STRING:
                    rest = token.string.replace("\\\\", "")
                    for at, sign in enumerate(rest):
                        if sign == "\\":
                            self.assertIn(rest[at + 1], "nt'\"", f"{path}:{token.start}")

    def test_names(self):
        allowed = BUILTINS | {"property", "classmethod", "staticmethod"}
        for stem, node in nodes((ast.Name, ast.Attribute, ast.arg, ast.FunctionDef, ast.ClassDef, ast.keyword)):
            name = getattr(node, "id", None) or getattr(node, "attr", None) or getattr(node, "arg", None) \
                or getattr(node, "name", None)
            self.assertNotIn(name, BARRED_NAMES | BARRED_WORDS, self.say(stem, node))
            if name.startswith("__"):
                self.assertIn(name[2:-2], DOUBLE, self.say(stem, node))
            if isinstance(node, ast.Name) and name in TAKEN:
                self.assertIn(name, allowed, self.say(stem, node))
                self.assertIsInstance(node.ctx, ast.Load, self.say(stem, node))
            if isinstance(node, ast.arg):
                self.assertFalse(name in TAKEN, self.say(stem, node))

    def test_underscore_is_not_read(self):
        for stem, node in nodes(ast.Name):
            if node.id == "_":
                self.assertIsInstance(node.ctx, ast.Store, self.say(stem, node))

    def test_local_names_are_no_imports_and_no_classes(self):
        for stem, tree in TREES.items():
            taken = {alias.name for node in tree.body if isinstance(node, ast.ImportFrom) for alias in node.names}
            taken |= {node.name for node in tree.body if isinstance(node, (ast.ClassDef, ast.FunctionDef))}
            for node in ast.walk(tree):
                if isinstance(node, ast.FunctionDef):
                    self.assertFalse(taken & set(bound_names(node)), f"{self.say(stem, node)} {node.name}")

    def test_methods_of_builtins(self):
        own = own_methods()
        for stem, node in nodes(ast.Call):
            if isinstance(node.func, ast.Attribute):
                self.assertIn(node.func.attr, METHODS | own, self.say(stem, node))

    def test_attributes_and_methods_part(self):
        own = own_methods()
        for stem, node in nodes(ast.Attribute):
            if isinstance(node.ctx, ast.Store):
                self.assertNotIn(node.attr, own, self.say(stem, node))

    def test_properties_are_no_methods(self):
        plain, properties = set(), set()
        for _, node in functions():
            decorators = [item.id for item in node.decorator_list if isinstance(item, ast.Name)]
            self.assertLessEqual(set(decorators), {"property", "classmethod", "staticmethod"})
            (properties if "property" in decorators else plain).add(node.name)
        methods = {item.name for _, node in nodes(ast.ClassDef) for item in node.body
                   if isinstance(item, ast.FunctionDef)}
        self.assertFalse(properties & plain & methods)

    def test_nothing_is_stored_under_the_name_of_a_property(self):
        properties = {node.name for _, node in functions()
                      if any(isinstance(item, ast.Name) and item.id == "property" for item in node.decorator_list)}
        self.assertIn("stand", properties)
        for stem, node in nodes(ast.Attribute):
            if isinstance(node.ctx, ast.Store):
                self.assertNotIn(node.attr, properties, self.say(stem, node))

    def test_lambdas_have_names_of_their_own(self):
        for stem, tree in TREES.items():
            taken = {alias.name for node in tree.body if isinstance(node, ast.ImportFrom) for alias in node.names}
            taken |= {node.name for node in tree.body if isinstance(node, (ast.ClassDef, ast.FunctionDef))}
            for node in ast.walk(tree):
                if isinstance(node, ast.Lambda):
                    self.assertFalse({arg.arg for arg in node.args.args} & taken, self.say(stem, node))

    def test_comparisons_by_is(self):
        for stem, node in nodes(ast.Compare):
            for operator, right in zip(node.ops, node.comparators):
                if isinstance(operator, (ast.Is, ast.IsNot)):
                    self.assertIsInstance(right, ast.Constant, self.say(stem, node))
                    self.assertIn(right.value, [None, True, False])

    def test_augmented_assignments_add_literal_integers(self):
        for stem, node in nodes(ast.AugAssign):
            self.assertIsInstance(node.value, ast.Constant, self.say(stem, node))
            self.assertIsInstance(node.target, ast.Name, self.say(stem, node))

    def test_sets_stand_in_sorted_or_len(self):
        for stem, node in nodes((ast.Call, ast.SetComp, ast.Set)):
            if isinstance(node, ast.Call) and not (isinstance(node.func, ast.Name) and node.func.id == "set"):
                continue
            outer = node.parent
            self.assertTrue(isinstance(outer, ast.Compare) or isinstance(outer, ast.Call)
                            and getattr(outer.func, "id", None) in ("sorted", "len"), self.say(stem, node))

    def test_what_is_iterated_on_the_spot(self):
        lazy = {"zip", "enumerate", "reversed", "map"}
        for stem, node in nodes(ast.Call):
            if isinstance(node.func, ast.Name) and node.func.id in lazy:
                outer = node.parent
                self.assertTrue(isinstance(outer, (ast.For, ast.comprehension)) or isinstance(outer, ast.Call)
                                and getattr(outer.func, "id", None) in
                                ("list", "tuple", "dict", "sorted", "sum", "any", "all", "enumerate", "zip"),
                                self.say(stem, node))

    def test_loops_do_not_change_what_they_go_over(self):
        for stem, node in nodes(ast.For):
            inside = {ast.unparse(item) for item in ast.walk(node.iter) if isinstance(item, (ast.Name, ast.Attribute))}
            for row in node.body:
                for item in ast.walk(row):
                    if isinstance(item, ast.Call) and isinstance(item.func, ast.Attribute) \
                            and item.func.attr in {"append", "pop", "extend", "insert", "remove", "clear", "update"}:
                        self.assertNotIn(ast.unparse(item.func.value), inside, self.say(stem, item))
                    if isinstance(item, ast.Subscript) and isinstance(item.ctx, (ast.Store, ast.Del)):
                        self.assertNotIn(ast.unparse(item.value), inside, self.say(stem, item))

    def test_variables_of_nested_comprehensions_are_unlike(self):
        kinds = (ast.ListComp, ast.DictComp, ast.SetComp)
        for stem, node in nodes(kinds):
            outer = {item.id for part in node.generators for item in ast.walk(part.target)
                     if isinstance(item, ast.Name)}
            for inner in ast.walk(node):
                if inner is not node and isinstance(inner, kinds):
                    own = {item.id for part in inner.generators for item in ast.walk(part.target)
                           if isinstance(item, ast.Name)}
                    self.assertFalse((outer & own) - {"_"}, self.say(stem, node))

    def test_special_methods_change_nothing(self):
        for stem, node in functions():
            if not node.name.startswith("__") or node.name in ("__init__", "__setitem__", "__call__", "__enter__",
                                                               "__exit__"):
                continue
            for item in ast.walk(node):
                if isinstance(item, (ast.Attribute, ast.Subscript)):
                    self.assertIsInstance(item.ctx, ast.Load, self.say(stem, item))
            if node.name in ("__eq__", "__repr__", "__str__", "__len__"):
                self.assertIsInstance(node.body[-1], ast.Return, self.say(stem, node))

    def test_functions_change_only_what_they_made(self):
        """Operators and properties run most functions; so all outside of the simplex keep this rule, and of desks
        what does not change them."""
        for stem, node in functions():
            if stem == "simplex" or node.name == "__init__":
                continue
            if stem == "desk" and node.name in DESK_CHANGES:
                continue
            own = set()
            for item in ast.walk(node):
                if isinstance(item, ast.Assign) and isinstance(item.targets[0], ast.Name):
                    made = item.value
                    if isinstance(made, OWN_OBJECTS) or isinstance(made, ast.Call) \
                            and getattr(made.func, "id", None) in ("list", "dict", "sorted"):
                        own.add(item.targets[0].id)
            for item in ast.walk(node):
                if isinstance(item, ast.Subscript) and isinstance(item.ctx, (ast.Store, ast.Del)):
                    self.assertIn(ast.unparse(item.value), own, self.say(stem, item))
                if isinstance(item, ast.Attribute):
                    self.assertIsInstance(item.ctx, ast.Load, self.say(stem, item))
                if isinstance(item, ast.Call) and isinstance(item.func, ast.Attribute) \
                        and item.func.attr in {"append", "pop", "extend", "insert", "remove", "clear", "update"}:
                    self.assertIn(ast.unparse(item.func.value), own, self.say(stem, item))

    def test_what_has_items_says_that_it_is_not_iterated(self):
        for stem, node in nodes(ast.ClassDef):
            names = {item.name for item in node.body if isinstance(item, ast.FunctionDef)}
            if "__getitem__" in names:
                self.assertIn("__iter__", names, self.say(stem, node))


if __name__ == "__main__":
    unittest.main()
