"""The form of the package's files: the rules of the language they are written in, as far as a tree of code shows them."""

import ast
import builtins
import os
import unittest

PACKAGE = os.path.join(os.path.dirname(os.path.dirname(os.path.abspath(__file__))), "lessonwright")
BUILTINS = set(dir(builtins))
LET = set("""len range enumerate zip min max sum abs sorted reversed int str bool bytes list tuple dict set frozenset
isinstance ord repr any all divmod pow super iter next map Exception ValueError TypeError KeyError IndexError LookupError
ZeroDivisionError ArithmeticError OverflowError RuntimeError NotImplementedError AttributeError StopIteration
NotImplemented True False None""".split())
BARRED = set("""register mro elements open input law version_info with_traceback add_note attrgetter breakpoint builtins
compile copyright credits delattr dir eval exec exit gc getattr globals hasattr help id importlib license locals
methodcaller os quit setattr super type vars sys""".split())
WORDS_BARRED = set("""type typing typing_extensions enum Enum IntEnum StrEnum Flag IntFlag Generic Protocol ABC ABCMeta
namedtuple NamedTuple TypedDict TYPE_CHECKING abstractmethod""".split())
METHODS = set("""append clear copy count endswith extend find get index insert isalnum isalpha isdigit islower isspace
isupper items join keys ljust lower lstrip partition pop remove replace reverse rfind rjust rpartition rsplit rstrip
setdefault split splitlines startswith strip update upper values zfill bit_length""".split())
CHANGING = {"append", "clear", "extend", "insert", "pop", "remove", "reverse", "setdefault", "update"}
AT_ONCE = {"list", "tuple", "dict", "sorted", "sum", "any", "all", "enumerate", "zip", "min", "max", "reversed", "len"}
NO_NODES = (ast.AsyncFunctionDef, ast.AsyncFor, ast.AsyncWith, ast.Await, ast.Global, ast.Div, ast.Set, ast.SetComp,
            ast.Import)
SCOPES = (ast.FunctionDef, ast.Lambda)
BUILTIN_VALUES = (0, True, "", b"", None, [], (), {}, set(), frozenset(), range(0), slice(0), {}.items(), {}.keys(),
                  {}.values(), iter([]), enumerate([]), zip([]), reversed([]), ValueError())
BUILTIN_NAMES = {name for value in BUILTIN_VALUES for name in dir(value)}


def files():
    return sorted(name for name in os.listdir(PACKAGE) if name != "__pycache__")


def text_of(name):
    with open(os.path.join(PACKAGE, name), encoding="utf-8") as file:
        return file.read()


TREES = {name: ast.parse(text_of(name)) for name in files() if name.endswith(".py")}


def defined(tree):
    found = []
    for row in tree.body:
        if isinstance(row, (ast.FunctionDef, ast.ClassDef)):
            found.append(row.name)
        if isinstance(row, ast.Assign):
            found.extend(target.id for target in row.targets)
    return found


def imported(tree):
    return [(row.module, alias.name) for row in tree.body if isinstance(row, ast.ImportFrom) for alias in row.names]


def docstrings(tree):
    found = []
    for node in ast.walk(tree):
        if isinstance(node, (ast.Module, ast.ClassDef, ast.FunctionDef)) and node.body:
            first = node.body[0]
            if isinstance(first, ast.Expr) and isinstance(first.value, ast.Constant):
                found.append(first.value)
    return found


def parameters(node):
    rows = node.args
    return [row.arg for row in rows.posonlyargs + rows.args + rows.kwonlyargs + [rows.vararg, rows.kwarg] if row]


def bound_in(tree):
    """Names bound inside functions: parameters, targets and nested functions."""
    found = []
    for scope in ast.walk(tree):
        if isinstance(scope, SCOPES):
            found.extend(parameters(scope))
            for node in ast.walk(scope):
                if isinstance(node, ast.Name) and isinstance(node.ctx, ast.Store):
                    found.append(node.id)
                if isinstance(node, ast.FunctionDef) and node is not scope:
                    found.append(node.name)
    return found


def bare(node):
    """What a loop goes over, where it is a name or an attribute, perhaps by its views."""
    if isinstance(node, ast.Call) and isinstance(node.func, ast.Attribute) and not node.args:
        node = node.func.value
    if isinstance(node, ast.Call) and isinstance(node.func, ast.Name) and node.func.id in ("enumerate", "zip", "reversed"):
        return [found for part in node.args for found in bare(part)]
    return [ast.dump(node)] if isinstance(node, (ast.Name, ast.Attribute)) else []


def kept_alone(tree):
    """What a plain name is given as a whole."""
    return [node.value for node in ast.walk(tree)
            if isinstance(node, ast.Assign) and [type(target) for target in node.targets] == [ast.Name]]


def methods_of(trees):
    return {part.name for tree in trees for row in ast.walk(tree) if isinstance(row, ast.ClassDef)
            for part in row.body if isinstance(part, ast.FunctionDef)}


def stored_in(trees):
    return {node.attr for tree in trees for node in ast.walk(tree)
            if isinstance(node, ast.Attribute) and isinstance(node.ctx, ast.Store)}


def handed_on(tree, barred):
    """The rows in which something of a barred name is read off an object, and not called where it stands."""
    called = [node.func for node in ast.walk(tree) if isinstance(node, ast.Call)]
    return [node.lineno for node in ast.walk(tree)
            if isinstance(node, ast.Attribute) and isinstance(node.ctx, ast.Load)
            and node.attr in barred and node not in called]


class Form(unittest.TestCase):
    def each(self):
        for name, tree in TREES.items():
            with self.subTest(file=name):
                yield name, tree

    def test_folder(self):
        for name in files():
            self.assertRegex(name, r"^[a-z_][a-z0-9_]*\.py$")
        self.assertIn("__init__.py", files())

    def test_sizes_and_characters(self):
        for name, tree in self.each():
            text = text_of(name)
            self.assertTrue(all(sign == "\n" or " " <= sign <= "~" for sign in text))
            self.assertLessEqual(len(text.splitlines()), 399)
            self.assertLessEqual(max(map(len, text.splitlines())), 120)
            for node in ast.walk(tree):
                if isinstance(node, ast.FunctionDef):
                    self.assertLessEqual(node.end_lineno - node.lineno + 1, 40, node.name)

    def test_module_level(self):
        for name, tree in self.each():
            for row in tree.body:
                if isinstance(row, ast.Expr):
                    self.assertIsInstance(row.value.value, str)
                elif isinstance(row, ast.Assign):
                    self.assertEqual([type(target) for target in row.targets], [ast.Name])
                    ast.literal_eval(row.value)
                else:
                    self.assertIsInstance(row, (ast.ImportFrom, ast.FunctionDef, ast.ClassDef))
            names = defined(tree) + [word for _, word in imported(tree)]
            self.assertEqual(len(names), len(set(names)))

    def test_docstrings(self):
        for name, tree in self.each():
            for node in ast.walk(tree):
                if isinstance(node, (ast.Module, ast.ClassDef)) or (
                        isinstance(node, ast.FunctionDef) and node.name != "__init__"):
                    self.assertTrue(ast.get_docstring(node), getattr(node, "name", name))

    def test_imports(self):
        for name, tree in self.each():
            rows = [isinstance(row, ast.ImportFrom) for row in tree.body[1:]]
            self.assertEqual(rows, sorted(rows, reverse=True))
            self.assertEqual(sum(isinstance(node, ast.ImportFrom) for node in ast.walk(tree)), sum(rows))
            for row in tree.body:
                if isinstance(row, ast.ImportFrom):
                    self.assertEqual((row.level, row.module.split(".")[0], len(row.module.split("."))),
                                     (0, "lessonwright", 2))
                    self.assertTrue(all(alias.asname is None for alias in row.names))
            for module, word in imported(tree):
                self.assertIn(word, defined(TREES[module.split(".")[1] + ".py"]))
            used = {node.id for node in ast.walk(tree) if isinstance(node, ast.Name)}
            self.assertEqual([word for _, word in imported(tree) if word not in used], [])

    def test_no_circles(self):
        left = {name: {module.split(".")[1] + ".py" for module, _ in imported(tree)} for name, tree in TREES.items()}
        while left:
            free = [name for name, asked in left.items() if not asked & set(left)]
            self.assertNotEqual(free, [], sorted(left))
            left = {name: asked for name, asked in left.items() if name not in free}

    def test_nodes(self):
        for name, tree in self.each():
            for node in ast.walk(tree):
                self.assertNotIsInstance(node, NO_NODES)
                if isinstance(node, (ast.FunctionDef, ast.ClassDef)):
                    self.assertEqual(node.decorator_list, [])
                if isinstance(node, ast.Constant):
                    self.assertNotIsInstance(node.value, (float, complex))
                if isinstance(node, ast.Compare):
                    for sign, side in zip(node.ops, node.comparators):
                        if isinstance(sign, (ast.Is, ast.IsNot)):
                            self.assertIn(getattr(side, "value", 0), (None, True, False))

    def test_names(self):
        for name, tree in self.each():
            own = defined(tree)
            inner = bound_in(tree)
            methods = [node.name for node in ast.walk(tree) if isinstance(node, ast.FunctionDef)]
            for word in own + inner + methods:
                self.assertNotIn(word, BARRED)
                if word not in methods or word in own:
                    self.assertNotIn(word, BUILTINS - {"__init__"})
                self.assertTrue(not word.startswith("__") or word == "__init__", word)
            classes = [row.name for row in tree.body if isinstance(row, ast.ClassDef)]
            for word in inner:
                self.assertNotIn(word, classes + [found for _, found in imported(tree)])
            for node in ast.walk(tree):
                if isinstance(node, ast.Name) and node.id in BUILTINS:
                    self.assertIn(node.id, LET)
                if isinstance(node, ast.Name) and node.id == "_":
                    self.assertIsInstance(node.ctx, ast.Store)

    def test_methods(self):
        own = {node.name for tree in TREES.values() for node in ast.walk(tree) if isinstance(node, ast.FunctionDef)}
        for name, tree in self.each():
            for node in ast.walk(tree):
                if isinstance(node, ast.Call) and isinstance(node.func, ast.Attribute):
                    self.assertIn(node.func.attr, METHODS | own)

    def test_no_method_with_a_builtin_values_name_is_handed_on(self):
        # Own ones of such a name, and all of builtin values, unless some class stores an attribute of that name.
        barred = (methods_of(TREES.values()) & BUILTIN_NAMES | METHODS) - stored_in(TREES.values())
        self.assertIn("step", barred)
        for name, tree in self.each():
            self.assertEqual(handed_on(tree, barred), [])

    def test_a_method_that_is_handed_on_is_found(self):
        self.assertIn("step", BUILTIN_NAMES)
        self.assertNotIn("has", BUILTIN_NAMES)
        for row, found in (("first_words(0, machine.letters, machine.step)", [1]), ("way = machine.step", [1]),
                           ("ways = [(machine.step, 1)]", [1]), ("words.append(word.strip)", [1]),
                           ("machine.step(0, letter)", []), ("lambda state, letter: machine.step(state, letter)", []),
                           ("rows_of(machine.has, words)", [])):
            with self.subTest(row):
                self.assertEqual(handed_on(ast.parse(row), {"step", "strip"}), found)

    def test_no_name_is_a_method_and_an_attribute_of_one_class(self):
        for name, tree in self.each():
            for row in tree.body:
                if isinstance(row, ast.ClassDef):
                    methods = {part.name for part in row.body if isinstance(part, ast.FunctionDef)}
                    stored = {node.attr for node in ast.walk(row)
                              if isinstance(node, ast.Attribute) and isinstance(node.ctx, ast.Store)}
                    self.assertEqual(methods & stored, set())

    def test_strings(self):
        for name, tree in self.each():
            shown = docstrings(tree)
            for node in ast.walk(tree):
                if isinstance(node, ast.Constant) and isinstance(node.value, str) and node not in shown:
                    self.assertNotIn(chr(37), node.value)
                    self.assertEqual(set(node.value.split()) & WORDS_BARRED, set())

    def test_what_goes_once_is_iterated_at_once(self):
        for name, tree in self.each():
            let = []
            for node in ast.walk(tree):
                if isinstance(node, (ast.For, ast.comprehension)):
                    let.append(node.iter)
                if isinstance(node, ast.Call) and isinstance(node.func, ast.Name) and node.func.id in AT_ONCE:
                    let.extend(node.args[:2] if node.func.id == "zip" else node.args[:1])
            for node in ast.walk(tree):
                if isinstance(node, ast.Call):
                    word = getattr(node.func, "id", getattr(node.func, "attr", ""))
                    if word in ("zip", "enumerate", "reversed", "items", "keys", "values"):
                        self.assertIn(node, let, word)
                    # A range may be kept under a name, too, and nowhere else.
                    if word == "range":
                        self.assertIn(node, let + kept_alone(tree), word)

    def test_loops_leave_what_they_go_over(self):
        for name, tree in self.each():
            for loop in ast.walk(tree):
                if isinstance(loop, ast.For):
                    over = bare(loop.iter)
                    for node in [found for row in loop.body for found in ast.walk(row)]:
                        changed = None
                        if isinstance(node, ast.Call) and isinstance(node.func, ast.Attribute):
                            changed = node.func.value if node.func.attr in CHANGING else None
                        if isinstance(node, ast.Subscript) and not isinstance(node.ctx, ast.Load):
                            changed = node.value
                        if changed is not None:
                            self.assertNotIn(ast.dump(changed), over)


if __name__ == "__main__":
    unittest.main()
