"""The rules of the language, L1 to L28, as far as they can be seen in the code of the package."""

import ast
import builtins
import pathlib
import re
import sys
import unittest

FOLDER = pathlib.Path(__file__).resolve().parent.parent / "sixviews"
FILES = {path.stem: path for path in sorted(FOLDER.glob("*.py"))}
TEXTS = {name: path.read_text(encoding="utf-8") for name, path in FILES.items()}
TREES = {name: ast.parse(text) for name, text in TEXTS.items()}

LIBRARY = {
    "heapq": {"heapify", "heappush", "heappop", "heapreplace", "heappushpop"},
    "math": {"gcd", "lcm", "isqrt", "comb", "perm", "factorial"},
}
BUILTINS = set(
    "len range enumerate zip min max sum abs sorted reversed int str bool list tuple dict set isinstance ord repr any all"
    " divmod iter ValueError TypeError KeyError NotImplemented property staticmethod classmethod super".split()
)
BUILTIN_METHODS = set(
    "append clear copy count endswith extend find get index insert isalnum isalpha isdigit islower isspace isupper items"
    " join keys ljust lower lstrip partition pop remove replace reverse rfind rjust rpartition rsplit rstrip setdefault"
    " split splitlines startswith strip update upper values zfill bit_length title capitalize swapcase casefold center"
    " expandtabs removeprefix removesuffix rindex isascii isdecimal isnumeric istitle isidentifier isprintable".split()
)
CHANGING = set("append clear extend insert pop remove reverse setdefault update sort add discard".split())
DOUBLE = set(
    "__init__ __eq__ __repr__ __str__ __len__ __enter__ __exit__ __call__ __iter__ __lt__ __le__ __gt__ __ge__ __ne__"
    " __add__ __sub__ __mul__ __floordiv__ __mod__ __pow__ __and__ __or__ __xor__ __lshift__ __rshift__ __radd__ __rsub__"
    " __rmul__ __rfloordiv__ __rmod__ __rand__ __ror__ __rxor__ __neg__ __pos__ __invert__ __abs__ __bool__ __contains__"
    " __getitem__ __setitem__".split()
)
# The methods of these names may change what they like.
FREE = ("__init__", "__call__", "__setitem__")
STATEMENTS = (
    ast.Assign, ast.AugAssign, ast.AnnAssign, ast.If, ast.While, ast.For, ast.Return, ast.Break, ast.Continue, ast.Pass,
    ast.Raise, ast.Assert, ast.Delete, ast.Nonlocal, ast.With, ast.Try, ast.Expr, ast.FunctionDef, ast.ClassDef,
    ast.Import, ast.ImportFrom,
)
BARRED_NAMES = set(
    "register mro elements open input law version_info with_traceback add_note attrgetter breakpoint builtins compile"
    " copyright credits delattr dir eval exec exit gc getattr globals hasattr help id importlib license locals"
    " methodcaller os quit setattr super type vars sys _cold _tuplegetter _outside _record _written_out"
    " _member_names".split()
)
BARRED_WORDS = set(
    "type typing typing_extensions enum Enum IntEnum StrEnum Flag IntFlag Generic Protocol ABC ABCMeta namedtuple"
    " NamedTuple TypedDict TYPE_CHECKING abstractmethod dataclass overload contextmanager".split()
)
BARRED_ATTRIBUTES = set(
    "items keys values pop update append clear extend insert remove reverse setdefault sort args encode decode hex fromhex"
    " format as_integer_ratio bit_count conjugate from_bytes is_integer to_bytes".split()
)


def functions_of(tree):
    """All functions and methods, with the class in which they stand, or None."""
    found = [(None, item) for item in tree.body if isinstance(item, ast.FunctionDef)]
    for owner in tree.body:
        if isinstance(owner, ast.ClassDef):
            found += [(owner, item) for item in owner.body if isinstance(item, ast.FunctionDef)]
    return found


def everything():
    """All nodes of all files, with the name of the file."""
    for name, tree in TREES.items():
        for node in ast.walk(tree):
            yield name, node


def parents():
    """For each node the node in which it stands."""
    found = {}
    for _, node in everything():
        for child in ast.iter_child_nodes(node):
            found[child] = node
    return found


PARENTS = parents()


def is_plain(node):
    """True if the value may stand at module level."""
    if isinstance(node, ast.Constant):
        return isinstance(node.value, (int, str, bytes, bool, type(None)))
    if isinstance(node, ast.UnaryOp):
        return isinstance(node.op, ast.USub) and is_plain(node.operand)
    if isinstance(node, (ast.Tuple, ast.List)):
        return all(is_plain(item) for item in node.elts)
    if isinstance(node, ast.Dict):
        return all(is_plain(item) for item in node.keys + node.values)
    return isinstance(node, ast.Name)


def own_names(function):
    """The parameters and local variables of a function, those of functions within it included."""
    names = []
    for node in ast.walk(function):
        if isinstance(node, ast.arg):
            names.append(node.arg)
        if isinstance(node, ast.Name) and isinstance(node.ctx, ast.Store):
            names.append(node.id)
        if isinstance(node, ast.ExceptHandler) and node.name:
            names.append(node.name)
        if isinstance(node, ast.FunctionDef) and node is not function:
            names.append(node.name)
    return names


def has_decorator(function, *names):
    """True if one of these decorators stands over the function."""
    return any(isinstance(item, ast.Name) and item.id in names for item in function.decorator_list)


def is_setter(function):
    """True if the function is the setter of a property."""
    return any(isinstance(item, ast.Attribute) for item in function.decorator_list)


def is_generator(function):
    return any(isinstance(node, (ast.Yield, ast.YieldFrom)) for node in ast.walk(function))


class FilesTest(unittest.TestCase):
    def test_names(self):
        for path in FOLDER.iterdir():
            if path.name == "__pycache__":
                continue
            self.assertRegex(path.name, r"\A[a-z_][a-z0-9_]*\.py\Z")
            self.assertNotIn(path.stem, set(dir(builtins)) | BARRED_NAMES | {"test", "tests", "testing", "site"})
        self.assertIn("__init__", FILES)
        self.assertLessEqual(len(FILES), 100)
        self.assertNotIn("sixviews", sys.stdlib_module_names)

    def test_characters_and_sizes(self):
        for name, text in TEXTS.items():
            self.assertIsNone(re.search(r"[^ -~\n]", text), name)
            lines = text.split("\n")
            self.assertLessEqual(len(lines), 399, name)
            for number, line in enumerate(lines, 1):
                self.assertLessEqual(len(line), 120, (name, number))
                self.assertEqual(line, line.rstrip(), (name, number))

    def test_functions_are_small(self):
        for name, node in everything():
            if isinstance(node, ast.FunctionDef):
                self.assertLessEqual(node.end_lineno - node.lineno + 1, 40, (name, node.name))

    def test_words(self):
        for name, node in everything():
            words = []
            if isinstance(node, ast.Name):
                words = [node.id]
            elif isinstance(node, ast.Attribute):
                words = [node.attr]
            elif isinstance(node, (ast.FunctionDef, ast.ClassDef)):
                words = [node.name]
            elif isinstance(node, ast.arg):
                words = [node.arg]
            elif isinstance(node, ast.keyword) and node.arg:
                words = [node.arg]
            for word in words:
                self.assertNotIn(word, BARRED_WORDS, name)
                if word not in DOUBLE:
                    self.assertRegex(word, r"\A(_?[A-Za-z][A-Za-z0-9_]*|_)\Z", name)
        for name, text in TEXTS.items():
            for word in ("_wall", "(type)", "Meta", "metaclass="):
                self.assertNotIn(word, text, name)

    def test_strings(self):
        for name, node in everything():
            if isinstance(node, ast.Constant) and isinstance(node.value, str):
                self.assertNotIn("%", node.value, name)
                self.assertNotIn("__", node.value, name)
                self.assertFalse(node.value.endswith("._"), name)
        for name, text in TEXTS.items():
            self.assertIsNone(re.search(r"\\[^n\\\"t']", text), name)


class ModulesTest(unittest.TestCase):
    def test_imports(self):
        for name, tree in TREES.items():
            done = False
            for node in tree.body:
                if isinstance(node, ast.ImportFrom):
                    self.assertFalse(done, (name, "imports stand at the top"))
                    self.assertEqual(node.level, 0, name)
                    for item in node.names:
                        self.assertIsNone(item.asname, name)
                        if node.module in LIBRARY:
                            self.assertIn(item.name, LIBRARY[node.module], name)
                        else:
                            self.assertTrue(node.module.startswith("sixviews."), name)
                            self.assertIn(item.name, self.defined(node.module.split(".")[1]), name)
                elif not isinstance(node, ast.Expr):
                    done = True
            imports = [node for node in ast.walk(tree) if isinstance(node, (ast.Import, ast.ImportFrom))]
            self.assertTrue(all(node in tree.body and isinstance(node, ast.ImportFrom) for node in imports), name)

    def defined(self, name):
        """The names that the file itself defines."""
        found = []
        for node in TREES[name].body:
            if isinstance(node, (ast.FunctionDef, ast.ClassDef)):
                found.append(node.name)
            elif isinstance(node, ast.Assign):
                found += [target.id for target in node.targets]
        return found

    def imported(self, name):
        """The names of the files of the package from which the file imports."""
        return [
            node.module.split(".")[1] for node in TREES[name].body
            if isinstance(node, ast.ImportFrom) and node.module not in LIBRARY
        ]

    def test_no_circles_of_imports(self):
        left = {name: set(self.imported(name)) for name in TREES}
        while left:
            free = [name for name, needs in left.items() if not needs & set(left)]
            self.assertTrue(free, left)
            for name in free:
                del left[name]

    def test_all_imports_are_used(self):
        for name, tree in TREES.items():
            used = {node.id for node in ast.walk(tree) if isinstance(node, ast.Name)}
            for node in tree.body:
                if isinstance(node, ast.ImportFrom):
                    for item in node.names:
                        self.assertIn(item.name, used, name)

    def test_module_level(self):
        for name, tree in TREES.items():
            self.assertIsNotNone(ast.get_docstring(tree), name)
            for node in tree.body[1:]:
                self.assertIsInstance(node, (ast.ImportFrom, ast.FunctionDef, ast.ClassDef, ast.Assign), name)
                if isinstance(node, ast.Assign):
                    self.assertEqual(len(node.targets), 1)
                    self.assertIsInstance(node.targets[0], ast.Name)
                    self.assertTrue(is_plain(node.value), (name, node.targets[0].id))
                    inner = [item for item in ast.walk(node.value) if item is not node.value]
                    self.assertFalse([item for item in inner if isinstance(item, (ast.List, ast.Dict))], name)

    def test_names_are_bound_once(self):
        for name, tree in TREES.items():
            imports = [item.name for node in tree.body if isinstance(node, ast.ImportFrom) for item in node.names]
            defined = self.defined(name)
            self.assertEqual(len(imports + defined), len(set(imports + defined)), name)
            classes = [node.name for node in tree.body if isinstance(node, ast.ClassDef)]
            for _, function in functions_of(tree):
                for word in own_names(function):
                    self.assertNotIn(word, imports + classes, (name, function.name))
                    self.assertNotIn(word, defined, (name, function.name))

    def test_no_name_of_a_builtin(self):
        for name, tree in TREES.items():
            words = self.defined(name)
            for _, function in functions_of(tree):
                words += own_names(function)
            for word in words:
                # A doctest that ran before has given `_` to the builtins.
                self.assertFalse(word != "_" and hasattr(builtins, word), (name, word))
                self.assertNotIn(word, BARRED_NAMES, name)

    def test_every_name_is_known(self):
        for name, tree in TREES.items():
            imports = [item.name for node in tree.body if isinstance(node, ast.ImportFrom) for item in node.names]
            known = set(imports) | set(self.defined(name)) | BUILTINS
            for _, function in functions_of(tree):
                known |= set(own_names(function))
            for node in ast.walk(tree):
                if isinstance(node, ast.Name):
                    self.assertIn(node.id, known | {"MOST"}, name)

    def test_lists_of_a_module_are_only_read(self):
        for name, tree in TREES.items():
            tables = [
                node.targets[0].id for node in tree.body
                if isinstance(node, ast.Assign) and isinstance(node.value, (ast.List, ast.Dict))
            ]
            for node in ast.walk(tree):
                if isinstance(node, ast.Name) and node.id in tables and isinstance(node.ctx, ast.Load):
                    above = PARENTS[node]
                    self.assertIsInstance(above, (ast.Subscript, ast.comprehension, ast.For, ast.Compare), name)
                    self.assertIsInstance(getattr(above, "ctx", ast.Load()), ast.Load, name)


class StatementsTest(unittest.TestCase):
    def test_statements(self):
        for name, node in everything():
            if isinstance(node, ast.stmt):
                self.assertIsInstance(node, STATEMENTS, name)
            self.assertNotIsInstance(node, (ast.Await, ast.Global, ast.GeneratorExp, ast.NamedExpr, ast.Set), name)

    def test_numbers(self):
        for name, node in everything():
            if isinstance(node, ast.Constant):
                self.assertNotIsInstance(node.value, (float, complex), name)
            if isinstance(node, (ast.BinOp, ast.AugAssign)):
                self.assertNotIsInstance(node.op, (ast.Div, ast.MatMult, ast.Pow), name)

    def test_is(self):
        for name, node in everything():
            if isinstance(node, ast.Compare) and isinstance(node.ops[0], (ast.Is, ast.IsNot)):
                self.assertIsInstance(node.comparators[0], ast.Constant, name)

    def test_not_implemented(self):
        for name, node in everything():
            if isinstance(node, ast.Name) and node.id == "NotImplemented":
                self.assertIsInstance(PARENTS[node], ast.Return, (name, node.lineno))

    def test_in_place_assignments(self):
        # Beside operators, `+=` is free for literal integers alone.
        for name, node in everything():
            if isinstance(node, ast.AugAssign):
                self.assertIsInstance(node.value, ast.Constant, (name, node.lineno))

    def test_errors(self):
        for name, node in everything():
            if isinstance(node, ast.Raise):
                self.assertIsInstance(node.exc, ast.Call, name)
                self.assertIsInstance(node.exc.func, ast.Name, name)
            if isinstance(node, ast.ExceptHandler):
                self.assertIsInstance(node.type, ast.Name, name)
                self.assertNotIn(node.type.id, ("Exception", "ValueError", "LookupError", "IndexError"), name)

    def test_caught_errors(self):
        for name, tree in TREES.items():
            for _, function in functions_of(tree):
                handlers = [node for node in ast.walk(function) if isinstance(node, ast.ExceptHandler)]
                for handler in handlers:
                    self.assertEqual(own_names(function).count(handler.name), 1 if handler.name else 0, function.name)
                for node in ast.walk(function):
                    if isinstance(node, ast.Raise) and node.cause is not None:
                        self.assertIn(getattr(node.cause, "id", None), [handler.name for handler in handlers], name)

    def test_super(self):
        # Only as `super().__init__(..)` in an `__init__`.
        for name, node in everything():
            if isinstance(node, ast.Name) and node.id == "super":
                call = PARENTS[node]
                above = PARENTS[call]
                self.assertEqual((call.args, above.attr), ([], "__init__"), name)
                self.assertIsInstance(PARENTS[above], ast.Call, name)
                while not isinstance(above, ast.FunctionDef):
                    above = PARENTS[above]
                self.assertEqual(above.name, "__init__", name)

    def test_iterated_at_once(self):
        for name, node in everything():
            if isinstance(node, ast.Call) and isinstance(node.func, ast.Name):
                above = PARENTS[node]
                if node.func.id in ("zip", "enumerate", "range", "reversed"):
                    calls = ("list", "tuple", "dict", "sorted", "enumerate", "zip", "reversed")
                    in_call = isinstance(above, ast.Call) and getattr(above.func, "id", None) in calls
                    self.assertTrue(isinstance(above, (ast.For, ast.comprehension)) or in_call, (name, node.lineno))
                if node.func.id in ("set",):
                    self.assertTrue(isinstance(above, ast.Call) and above.func.id in ("sorted", "len"), name)

    def test_builtins_are_called_only(self):
        classes = ("int", "str", "bool", "list", "tuple", "dict")
        for name, node in everything():
            if isinstance(node, ast.Name) and node.id in BUILTINS and node.id != "NotImplemented":
                above = PARENTS[node]
                called = isinstance(above, ast.Call) and (above.func is node or node.id in classes)
                over = isinstance(above, ast.FunctionDef) or node.id == "ValueError"
                self.assertTrue(called or over, (name, node.id, node.lineno))

    def test_methods_that_are_called(self):
        own = {item.name for tree in TREES.values() for owner, item in functions_of(tree) if owner}
        for name, node in everything():
            if isinstance(node, ast.Call) and isinstance(node.func, ast.Attribute):
                self.assertIn(node.func.attr, own | BUILTIN_METHODS, (name, node.lineno))
                if node.func.attr not in own:
                    self.assertFalse(node.keywords, (name, node.lineno))


class ClassesTest(unittest.TestCase):
    def classes(self):
        return [node for tree in TREES.values() for node in tree.body if isinstance(node, ast.ClassDef)]

    def test_bodies(self):
        for owner in self.classes():
            self.assertFalse(owner.decorator_list + owner.keywords, owner.name)
            self.assertIsNotNone(ast.get_docstring(owner), owner.name)
            for node in owner.body[1:]:
                self.assertIsInstance(node, (ast.FunctionDef, ast.Assign), owner.name)
                if isinstance(node, ast.Assign):
                    self.assertTrue(is_plain(node.value), owner.name)

    def test_methods(self):
        for owner in self.classes():
            methods = [node for node in owner.body if isinstance(node, ast.FunctionDef)]
            names = [method.name for method in methods if not is_setter(method)]
            self.assertEqual(len(names), len(set(names)), owner.name)
            for method in methods:
                if method.name.startswith("__"):
                    self.assertIn(method.name, DOUBLE, owner.name)
                    self.assertFalse(method.decorator_list or is_generator(method))
                self.assertLessEqual(len(method.decorator_list), 1, method.name)
                if is_setter(method):
                    self.assertEqual(ast.unparse(method.decorator_list[0]), f"{method.name}.setter")
                    self.assertEqual([item.arg for item in method.args.args], ["self", "value"])
                    self.assertIn(method.name, names)
                    continue
                for decorator in method.decorator_list:
                    self.assertIn(decorator.id, ("property", "staticmethod", "classmethod"))
                if has_decorator(method, "property", "staticmethod", "classmethod"):
                    self.assertFalse(is_generator(method), method.name)
            if "__getitem__" in names:
                self.assertIn("__iter__", names)
            if "__rmul__" in names:
                self.assertFalse(owner.bases, owner.name)
            self.assertFalse({"__radd__", "__iadd__", "__len__", "__lt__", "__ne__"} & set(names), owner.name)

    def test_no_decorated_functions(self):
        for tree in TREES.values():
            for owner, function in functions_of(tree):
                if owner is None:
                    self.assertFalse(function.decorator_list)

    def test_iteration_and_equality_have_their_one_form(self):
        for owner in self.classes():
            for method in owner.body:
                if isinstance(method, ast.FunctionDef) and method.name == "__iter__":
                    self.assertRegex(ast.unparse(method.body[-1]), r"\Areturn iter\(self\.\w+\)\Z")
                    self.assertEqual(len(method.body), 1)
                if isinstance(method, ast.FunctionDef) and method.name == "__eq__":
                    self.assertEqual(len(method.body), 1)
                    start = f"return isinstance(other, {owner.name}) and self."
                    self.assertTrue(ast.unparse(method.body[0]).startswith(start))
                if isinstance(method, ast.FunctionDef) and method.name == "__bool__":
                    self.assertRegex(ast.unparse(method.body[-1]), r"\Areturn (bool\(self\._rows\)|any\(\[.+\]\))\Z")

    def test_attributes_and_methods_have_other_names(self):
        methods, special, attributes = set(), set(), set()
        for owner in self.classes():
            for node in ast.walk(owner):
                if isinstance(node, ast.FunctionDef):
                    if node.decorator_list:
                        special.add(node.name)
                    else:
                        methods.add(node.name)
                if isinstance(node, ast.Attribute) and isinstance(node.ctx, ast.Store):
                    attributes.add(node.attr)
                    self.assertIsInstance(node.value, ast.Name, owner.name)
                    self.assertNotIn(node.value.id, [item.name for item in self.classes()], owner.name)
        self.assertFalse(methods & attributes)
        self.assertFalse(methods & special)
        self.assertFalse(attributes & (special | BARRED_ATTRIBUTES))
        self.assertFalse(special & BUILTIN_METHODS)
        read = {node.attr for _, node in everything() if isinstance(node, ast.Attribute)}
        self.assertFalse(read - methods - special - attributes - BUILTIN_METHODS - {"MOST", "setter"})

    def test_generators(self):
        generators = [item.name for tree in TREES.values() for _, item in functions_of(tree) if is_generator(item)]
        others = [item.name for tree in TREES.values() for _, item in functions_of(tree) if not is_generator(item)]
        self.assertEqual(len(generators), len(set(generators)))
        self.assertFalse(set(generators) & (set(others) | BUILTIN_METHODS))


class OperatorsTest(unittest.TestCase):
    """L5: what an operator or a property runs changes nothing that it did not create itself."""

    def run_by_operators(self):
        """All functions and methods that an operator or a property may run, found by their names."""
        by_name = {}
        for name, tree in TREES.items():
            for owner, item in functions_of(tree):
                by_name.setdefault(item.name, []).append((name, owner, item))
                if owner is not None and item.name == "__init__":
                    by_name.setdefault(owner.name, []).append((name, owner, item))
        waiting = [
            entry for entries in by_name.values() for entry in entries
            if entry[1] is not None
            and ((entry[2].name in DOUBLE and entry[2].name not in FREE) or has_decorator(entry[2], "property"))
        ]
        found = []
        while waiting:
            entry = waiting.pop()
            if entry in found:
                continue
            found.append(entry)
            for node in ast.walk(entry[2]):
                if isinstance(node, ast.Call):
                    word = node.func.attr if isinstance(node.func, ast.Attribute) else getattr(node.func, "id", None)
                    waiting += by_name.get(word, [])
        return found

    def created(self, function):
        """The local variables that are only ever assigned new lists and dicts."""
        fresh, stale = set(), set()
        for node in ast.walk(function):
            if isinstance(node, ast.Assign):
                for target in node.targets:
                    if isinstance(target, ast.Name):
                        new = isinstance(node.value, (ast.List, ast.Dict, ast.ListComp, ast.DictComp))
                        (fresh if new else stale).add(target.id)
            elif isinstance(node, (ast.For, ast.comprehension)):
                stale |= {item.id for item in ast.walk(node.target) if isinstance(item, ast.Name)}
        return fresh - stale - {item.arg for item in function.args.args}

    def test_nothing_is_changed(self):
        entries = self.run_by_operators()
        self.assertIn("sweep_of", [function.name for _, _, function in entries])
        for name, owner, function in entries:
            place = (name, function.name)
            created = self.created(function)
            self.assertFalse(is_generator(function), place)
            for node in ast.walk(function):
                if isinstance(node, ast.Attribute) and isinstance(node.ctx, (ast.Store, ast.Del)):
                    self.assertEqual((function.name, node.value.id), ("__init__", "self"), place)
                if isinstance(node, ast.Subscript) and isinstance(node.ctx, (ast.Store, ast.Del)):
                    self.assertIn(getattr(node.value, "id", None), created, place)
                if isinstance(node, ast.Call) and isinstance(node.func, ast.Attribute) and node.func.attr in CHANGING:
                    self.assertIn(getattr(node.func.value, "id", None), created, place)
                if isinstance(node, ast.Call) and isinstance(node.func, ast.Name):
                    self.assertNotIn(node.func.id, own_names(function), place)
                    self.assertFalse(node.func.id.startswith("heap") or node.func.id == "map", place)
                self.assertNotIsInstance(node, ast.AugAssign, place)


if __name__ == "__main__":
    unittest.main()
