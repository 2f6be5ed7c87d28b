"""Looks through the package's files for what ../shared/LANGUAGE.md leaves out, as far as that shows in the tree."""
import ast
import builtins
import os
import re
import unittest

HERE = os.path.dirname(os.path.abspath(__file__))
PACKAGE = os.path.join(os.path.dirname(HERE), "formgrove")
OWN_NAMES = """len range enumerate zip min max sum abs sorted reversed int str bool list tuple dict set frozenset
isinstance ord repr any all divmod Exception ValueError TypeError KeyError IndexError LookupError ZeroDivisionError
ArithmeticError OverflowError RuntimeError NotImplementedError AttributeError StopIteration""".split()
METHODS = """append clear copy count endswith extend find get index insert isalnum isalpha isdigit islower isspace
isupper items join keys ljust lower lstrip partition pop remove replace reverse rfind rjust rpartition rsplit rstrip
setdefault split splitlines startswith strip update upper values zfill bit_length""".split()
UNDERSCORED = ["__init__", "__eq__", "__repr__", "__str__", "__len__"]
UNUSED = """register mro elements open input version_info with_traceback add_note attrgetter breakpoint builtins
compile copyright credits delattr dir eval exec exit gc getattr globals hasattr help id importlib license locals
methodcaller os quit setattr super type vars sys format format_map""".split()
WORDS = """type typing typing_extensions enum Enum IntEnum StrEnum Flag IntFlag Generic Protocol ABC ABCMeta
namedtuple NamedTuple TypedDict TYPE_CHECKING abstractmethod""".split()
STATEMENTS = (ast.Assign, ast.AugAssign, ast.If, ast.While, ast.For, ast.Return, ast.Break, ast.Continue, ast.Pass,
              ast.Raise, ast.Try, ast.Expr, ast.FunctionDef, ast.ClassDef, ast.ImportFrom)
EXPRESSIONS = (ast.BoolOp, ast.BinOp, ast.UnaryOp, ast.Lambda, ast.IfExp, ast.Dict, ast.ListComp, ast.Compare,
               ast.Call, ast.JoinedStr, ast.FormattedValue, ast.Constant, ast.Attribute, ast.Subscript, ast.Name,
               ast.List, ast.Tuple, ast.Slice)
KEYWORDS = {"sorted": ["key", "reverse"], "min": ["key", "default"], "max": ["key", "default"], "sum": ["start"],
            "enumerate": ["start"], "zip": ["strict"]}
WALKED = ["zip", "enumerate", "reversed", "range"]
WALKERS = ["list", "tuple", "dict", "sorted", "sum", "any", "all", "enumerate", "zip", "min", "max"]


def package_files():
    return sorted(name for name in os.listdir(PACKAGE) if name != "__pycache__")


def source(name):
    with open(os.path.join(PACKAGE, name), encoding="utf-8", newline="") as file:
        return file.read()


def trees():
    return {name: ast.parse(source(name)) for name in package_files()}


def parents_of(tree):
    parents = {}
    for node in ast.walk(tree):
        for child in ast.iter_child_nodes(node):
            parents[child] = node
    return parents


def is_docstring(node):
    return isinstance(node, ast.Expr) and isinstance(node.value, ast.Constant) and isinstance(node.value.value, str)


def is_plain(node, functions):
    if isinstance(node, ast.Constant):
        return True
    if isinstance(node, ast.Name):
        return node.id in functions
    if isinstance(node, (ast.Tuple, ast.List)):
        return all(is_plain(child, functions) for child in node.elts)
    if isinstance(node, ast.Dict):
        return all(is_plain(child, functions) for child in node.keys + node.values)
    return isinstance(node, ast.UnaryOp) and isinstance(node.operand, ast.Constant)


def bound_names(tree):
    """Names of parameters and locals."""
    for node in ast.walk(tree):
        if isinstance(node, ast.arg):
            yield node.arg, node
        elif isinstance(node, ast.Name) and isinstance(node.ctx, ast.Store):
            yield node.id, node
        elif isinstance(node, ast.ExceptHandler) and node.name:
            yield node.name, node


class Language(unittest.TestCase):
    def setUp(self):
        self.trees = trees()
        self.faults = []

    def tearDown(self):
        self.assertEqual(self.faults, [])

    def fault(self, rule, name, node):
        self.faults.append("%s %s:%s" % (rule, name, getattr(node, "lineno", "")))

    def each_node(self):
        for name, tree in self.trees.items():
            for node in ast.walk(tree):
                yield name, node

    def test_files(self):
        self.assertIn("__init__.py", package_files())
        for name in package_files():
            text = source(name)
            stem = name[:-3]
            if not re.fullmatch(r"[a-z][a-z0-9_]*\.py|__init__\.py", name) or stem in dir(builtins) + UNUSED:
                self.fault("L14", name, None)
            if re.search(r"[^ -~\n]", text):
                self.fault("L14 signs", name, None)
            rows = text.split("\n")
            if len(rows) > 400 or max(len(row) for row in rows) > 120:
                self.fault("L10", name, None)
            for word in WORDS:
                if re.search(r"\b%s\b" % word, text):
                    self.fault("L17 " + word, name, None)
            if re.search("dataclass|overload|contextmanager", text):
                self.fault("L17", name, None)

    def test_tops_of_files(self):
        for name, tree in self.trees.items():
            functions = []
            bound = []
            for number, node in enumerate(tree.body):
                if isinstance(node, ast.Assign):
                    bound += [target.id for target in node.targets]
                    if not is_plain(node.value, functions):
                        self.fault("L3", name, node)
                elif isinstance(node, (ast.FunctionDef, ast.ClassDef)):
                    bound.append(node.name)
                    functions += [node.name] if isinstance(node, ast.FunctionDef) else []
                elif isinstance(node, ast.ImportFrom):
                    bound += [alias.asname or alias.name for alias in node.names]
                elif not (number == 0 and is_docstring(node)):
                    self.fault("L3", name, node)
            if len(bound) != len(set(bound)):
                self.fault("L15", name, None)

    def test_imports(self):
        drawn = {}
        for name, tree in self.trees.items():
            drawn[name] = ["__init__.py"] if name != "__init__.py" else []
            for node in tree.body:
                if not isinstance(node, ast.ImportFrom):
                    continue
                other = (node.module or "").replace("formgrove.", "", 1) + ".py"
                if node.level or other not in self.trees or not node.module.startswith("formgrove."):
                    self.fault("L2", name, node)
                    continue
                drawn[name].append(other)
                defined = [item.name for item in self.trees[other].body if hasattr(item, "name")]
                defined += [item.targets[0].id for item in self.trees[other].body if isinstance(item, ast.Assign)]
                if any(alias.name not in defined for alias in node.names):
                    self.fault("L16", name, node)
        while any(not others for others in drawn.values()):
            free = [name for name, others in drawn.items() if not others]
            drawn = {name: [other for other in others if other not in free]
                     for name, others in drawn.items() if name not in free}
        self.assertEqual(drawn, {}, "files that draw from one another")

    def test_functions(self):
        for name, node in self.each_node():
            if isinstance(node, (ast.FunctionDef, ast.Lambda)):
                args = node.args
                if args.vararg or args.kwarg or args.kwonlyargs or args.posonlyargs:
                    self.fault("L4", name, node)
                if not all(is_plain(default, []) for default in args.defaults):
                    self.fault("L4", name, node)
            if isinstance(node, ast.FunctionDef):
                if node.decorator_list or node.end_lineno - node.lineno + 1 > 40:
                    self.fault("L4 L10", name, node)
            if isinstance(node, ast.ClassDef):
                if len(node.bases) > 1 or node.keywords or node.decorator_list:
                    self.fault("L5", name, node)
                if not all(isinstance(item, (ast.FunctionDef, ast.Pass)) or is_docstring(item) for item in node.body):
                    self.fault("L5", name, node)
                methods = [item.name for item in node.body if isinstance(item, ast.FunctionDef)]
                if len(methods) != len(set(methods)):
                    self.fault("L18", name, node)

    def test_statements(self):
        for name, node in self.each_node():
            if isinstance(node, ast.stmt) and not isinstance(node, STATEMENTS):
                self.fault("L6", name, node)
            if isinstance(node, ast.Assign):
                if len(node.targets) > 1 or not isinstance(node.targets[0], (ast.Name, ast.Attribute, ast.Subscript)):
                    self.fault("L6", name, node)
            if isinstance(node, (ast.For, ast.While)) and node.orelse:
                self.fault("L6", name, node)
            if isinstance(node, ast.Try) and (node.finalbody or any(not part.type for part in node.handlers)):
                self.fault("L6", name, node)
            if isinstance(node, ast.Expr) and not isinstance(node.value, ast.Call) and not is_docstring(node):
                self.fault("L6", name, node)

    def test_expressions(self):
        for name, node in self.each_node():
            if isinstance(node, ast.expr) and not isinstance(node, EXPRESSIONS):
                self.fault("L7", name, node)
            if isinstance(node, ast.Constant) and not isinstance(node.value, (int, str, type(None))):
                self.fault("L7", name, node)
            if isinstance(node, ast.Constant) and isinstance(node.value, str) and "%" in node.value:
                self.fault("L27", name, node)
            if isinstance(node, (ast.Div, ast.MatMult, ast.Pow, ast.LShift)):
                self.fault("L7 L27", name, node)
            if isinstance(node, ast.ListComp):
                if len(node.generators) > 1 or len(node.generators[0].ifs) > 1:
                    self.fault("L7", name, node)
            if isinstance(node, ast.FormattedValue):
                if not isinstance(node.value, ast.Name) or node.format_spec or node.conversion not in (-1, ord("r")):
                    self.fault("L7", name, node)
            if isinstance(node, ast.Compare):
                sides = [node.left] + node.comparators
                for number, operator in enumerate(node.ops):
                    pair = sides[number:number + 2]
                    if isinstance(operator, (ast.Is, ast.IsNot)) and not any(
                            isinstance(side, ast.Constant) and side.value in (None, True, False) for side in pair):
                        self.fault("L20", name, node)

    def test_names(self):
        for name, tree in self.trees.items():
            taken = [alias.asname or alias.name for node in tree.body if isinstance(node, ast.ImportFrom)
                     for alias in node.names]
            taken += [node.name for node in tree.body if isinstance(node, ast.ClassDef)]
            for bound, node in bound_names(tree):
                if bound in dir(builtins) or bound in taken or bound in UNUSED:
                    self.fault("L15 " + bound, name, node)
            for node in ast.walk(tree):
                used = getattr(node, "id", getattr(node, "attr", getattr(node, "arg", getattr(node, "name", None))))
                if not isinstance(used, str):
                    continue
                if (used.startswith("_") and used not in UNDERSCORED) or used in UNUSED:
                    self.fault("L12 L17 " + used, name, node)
                if isinstance(node, ast.Name) and used in dir(builtins) and used not in OWN_NAMES:
                    self.fault("L8 " + used, name, node)

    def test_calls(self):
        for name, tree in self.trees.items():
            parents = parents_of(tree)
            for node in ast.walk(tree):
                if not isinstance(node, ast.Call):
                    continue
                called = getattr(node.func, "id", None)
                if called in OWN_NAMES and any(word.arg not in KEYWORDS.get(called, []) for word in node.keywords):
                    self.fault("L22", name, node)
                lazy = called in WALKED or getattr(node.func, "attr", None) in ("items", "keys", "values")
                if lazy and not self.walked_at_once(node, parents[node]):
                    self.fault("L23", name, node)
                if called in ("set", "frozenset"):
                    parent = parents[node]
                    within = getattr(getattr(parent, "func", None), "id", None) in ("sorted", "len")
                    if not within and not isinstance(parent, (ast.Compare, ast.BinOp)):
                        self.fault("L24", name, node)

    def walked_at_once(self, node, parent):
        if isinstance(parent, (ast.For, ast.comprehension)):
            return parent.iter is node
        return isinstance(parent, ast.Call) and getattr(parent.func, "id", None) in WALKERS and parent.args[0] is node

    def test_methods_and_values(self):
        methods = {}
        values = {}
        for name, node in self.each_node():
            if isinstance(node, ast.ClassDef):
                for item in node.body:
                    if isinstance(item, ast.FunctionDef):
                        methods[item.name] = (name, item)
            if isinstance(node, ast.Attribute) and isinstance(node.ctx, ast.Store):
                values[node.attr] = (name, node)
        native = set(dir(str) + dir(int) + dir(list) + dir(dict) + dir(set) + dir(bytes) + dir(tuple))
        for own in methods:
            if own in values or (own in native and own not in METHODS + UNDERSCORED + ["add", "discard"]):
                self.fault("L18 L26 " + own, *methods[own])
        for own in values:
            if own in native:
                self.fault("L26 " + own, *values[own])
        for name, tree in self.trees.items():
            parents = parents_of(tree)
            for node in ast.walk(tree):
                if not isinstance(node, ast.Attribute):
                    continue
                parent = parents[node]
                is_called = isinstance(parent, ast.Call) and parent.func is node
                if is_called and node.attr not in METHODS and node.attr not in methods:
                    self.fault("L25 " + node.attr, name, node)
                if not is_called and node.attr not in values:
                    self.fault("L25 " + node.attr, name, node)


if __name__ == "__main__":
    unittest.main()
