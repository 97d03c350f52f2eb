"""Holds a package's files against the rules L1 to L28 of ../shared/LANGUAGE.md.

broken_rules(files) takes the package's files, path by path, and gives each
break as (rule, path, line, words). What can't be seen in the source alone is
not looked for; where it's simpler, more is refused than the rules refuse.
"""

import ast
import builtins
import keyword
import re

PACKAGE = "partrounds"
INTERFACE = {"learning.py": ("answers",)}

ERRORS = ("Exception", "ValueError", "TypeError", "KeyError", "IndexError", "LookupError", "ZeroDivisionError",
          "ArithmeticError", "OverflowError", "RuntimeError", "NotImplementedError", "AttributeError",
          "StopIteration")
PLAIN_BUILTINS = ("len", "range", "enumerate", "zip", "min", "max", "sum", "abs", "sorted", "reversed", "int", "str",
                  "bool", "list", "tuple", "dict", "set", "frozenset", "isinstance", "ord", "repr", "any", "all",
                  "divmod")
DUNDER_METHODS = ("__init__", "__eq__", "__repr__", "__str__", "__len__")
VALUE_METHODS = ("append clear copy count endswith extend find get index insert isalnum isalpha isdigit islower"
                 " isspace isupper items join keys ljust lower lstrip partition pop remove replace reverse rfind"
                 " rjust rpartition rsplit rstrip setdefault split splitlines startswith strip update upper values"
                 " zfill bit_length").split()
CHANGING = ("append", "clear", "extend", "insert", "pop", "remove", "reverse", "setdefault", "update")
FREE_VALUES = ("count", "index", "title", "find", "get", "join", "lower", "upper", "split", "strip", "copy", "add")
UNUSED_ANYWHERE = ("register mro elements open input version_info with_traceback add_note f_back f_globals f_locals"
                   " f_builtins f_code f_lineno f_trace tb_next tb_frame tb_lineno tb_lasti co_names co_code"
                   " co_consts co_varnames gi_frame cr_frame").split()
UNUSED_NAMES = ("attrgetter breakpoint builtins compile copyright credits delattr dir eval exec exit gc getattr"
                " globals hasattr help id importlib license locals methodcaller os quit setattr super type"
                " vars").split()
WORDS_NOWHERE = ("type typing typing_extensions enum Enum IntEnum StrEnum Flag IntFlag Generic Protocol ABC ABCMeta"
                 " namedtuple NamedTuple TypedDict TYPE_CHECKING abstractmethod").split()
PARTS_NOWHERE = ("dataclass", "overload", "contextmanager")
FILE_NAMES_NOT_USED = ("test", "tests", "testing", "site", "conftest", "sitecustomize", "usercustomize")

STATEMENTS = (ast.Assign, ast.AugAssign, ast.If, ast.While, ast.For, ast.Return, ast.Break, ast.Continue, ast.Pass,
              ast.Raise, ast.Try, ast.Expr, ast.FunctionDef, ast.ClassDef, ast.Import, ast.ImportFrom)
EXPRESSIONS = (ast.Constant, ast.Name, ast.Attribute, ast.Subscript, ast.Slice, ast.List, ast.Tuple, ast.Dict,
               ast.Set, ast.BinOp, ast.UnaryOp, ast.BoolOp, ast.Compare, ast.IfExp, ast.Call, ast.ListComp,
               ast.JoinedStr, ast.FormattedValue, ast.Lambda)
OTHER_NODES = (ast.Module, ast.arguments, ast.arg, ast.keyword, ast.alias, ast.comprehension, ast.ExceptHandler,
               ast.expr_context, ast.boolop, ast.unaryop, ast.cmpop)
OPERATORS = (ast.Add, ast.Sub, ast.Mult, ast.FloorDiv, ast.Mod, ast.Pow, ast.BitAnd, ast.BitOr, ast.BitXor,
             ast.LShift, ast.RShift)
WALKED = ("zip", "enumerate", "reversed", "range")
WALKED_METHODS = ("items", "keys", "values")
FIRST_IN = ("list", "tuple", "dict", "sorted", "sum", "any", "all", "enumerate", "zip")
READING = ("len", "list", "tuple", "dict", "sorted", "min", "max", "sum", "any", "all", "enumerate", "zip",
           "reversed")
KEYWORDS = {"sorted": ("key", "reverse"), "min": ("key", "default"), "max": ("key", "default"), "sum": ("start",),
            "enumerate": ("start",), "zip": ("strict",)}
AS_KEY = ("len", "int", "str", "abs", "sum", "min", "max", "tuple")
INSTANCE_OF = ("int", "str", "bool", "list", "tuple", "dict") + ERRORS

METHODS_OF_VALUES = {name for kind in (str, int, list, tuple, dict, set, frozenset, bytes) for name in dir(kind)}
BUILTIN_NAMES = {name for name in dir(builtins) if not name.startswith("_")}


class File:
    """One file: its tree, with parents, and what it binds."""

    def __init__(self, path, source):
        self.path = path
        self.source = source
        self.lines = source.split("\n")
        self.tree = ast.parse(source)
        self.parents = {}
        for node in ast.walk(self.tree):
            for child in ast.iter_child_nodes(node):
                self.parents[child] = node
        self.nodes = [node for node in ast.walk(self.tree)]
        self.name = path.split("/")[-1]
        self.defined = {}
        self.imported = {}
        for node in self.tree.body:
            if isinstance(node, (ast.FunctionDef, ast.ClassDef)):
                self.defined.setdefault(node.name, []).append(node)
            elif isinstance(node, ast.Assign):
                for target in node.targets:
                    for name in [one for one in ast.walk(target) if isinstance(one, ast.Name)]:
                        self.defined.setdefault(name.id, []).append(node)
            elif isinstance(node, (ast.ImportFrom, ast.Import)):
                for alias in node.names:
                    self.imported.setdefault(alias.asname or alias.name, []).append(node)

    def all_of(self, *kinds):
        return [node for node in self.nodes if isinstance(node, kinds)]

    def parent(self, node):
        return self.parents.get(node)

    def above(self, node, *kinds):
        """Give the nodes of these kinds that stand around a node, the nearest first."""
        found = []
        while node in self.parents:
            node = self.parents[node]
            if isinstance(node, kinds):
                found.append(node)
        return found


def bound_names(node):
    """Give the names that a def, lambda or comprehension binds for what stands in it."""
    names = set()
    if isinstance(node, (ast.FunctionDef, ast.Lambda)):
        names |= {arg.arg for arg in node.args.args + node.args.kwonlyargs + node.args.posonlyargs}
    for inner in ast.walk(node):
        if isinstance(inner, ast.Name) and isinstance(inner.ctx, ast.Store):
            names.add(inner.id)
        elif isinstance(inner, ast.ExceptHandler) and inner.name:
            names.add(inner.name)
        elif isinstance(inner, ast.FunctionDef) and inner is not node:
            names.add(inner.name)
    return names


def module_of(path):
    parts = [PACKAGE] + path[:-3].split("/")
    return ".".join(parts[:-1] if parts[-1] == "__init__" else parts)


def is_docstring(file, node):
    above = file.parent(node)
    return (isinstance(node, ast.Expr) and isinstance(node.value, ast.Constant) and isinstance(node.value.value, str)
            and isinstance(above, (ast.Module, ast.FunctionDef, ast.ClassDef)) and above.body[0] is node)


def is_call_of(node, *names):
    return isinstance(node, ast.Call) and isinstance(node.func, ast.Name) and node.func.id in names


def is_method_call(node, *names):
    return isinstance(node, ast.Call) and isinstance(node.func, ast.Attribute) and node.func.attr in names


def own_classes(files):
    return {name for file in files for name, nodes in file.defined.items() if isinstance(nodes[0], ast.ClassDef)}


def methods_and_values(files):
    """Give the package's own methods and the values its objects are given, by name: where each stands."""
    methods, values = {}, {}
    for file in files:
        for holder in file.all_of(ast.ClassDef):
            for node in holder.body:
                if isinstance(node, ast.FunctionDef):
                    methods.setdefault(node.name, []).append((file, node, holder))
        for node in file.all_of(ast.Attribute):
            if isinstance(node.ctx, ast.Store):
                values.setdefault(node.attr, []).append((file, node))
    return methods, values


def check_files(files, sources):
    """L1 and L14: names, places and signs of files."""
    for path, source in sources.items():
        name = path.split("/")[-1]
        if not re.fullmatch(r"([A-Za-z0-9_]+/)*[A-Za-z0-9_]+\.py", path):
            yield "L1", path, 1, "no .py file with a plain name"
        for part in path[:-3].split("/"):
            if part != part.lower():
                yield "L14", path, 1, "not lower-case"
            if part in FILE_NAMES_NOT_USED or part.startswith("test_") or part in BUILTIN_NAMES | {"filter", "format"}:
                yield "L14", path, 1, "a file called so"
            if part in WORDS_NOWHERE:
                yield "L14", path, 1, "a file called so"
        if name == "__main__.py" and "/" in path:
            yield "L14", path, 1, "__main__.py not at the top"
        for number, line in enumerate(source.split("\n"), 1):
            if any(not " " <= sign <= "~" for sign in line if sign != "\t"):
                yield "L14", path, number, "another sign"
    for folder in {path.rpartition("/")[0] for path in sources} | {""}:
        if (folder + "/__init__.py").lstrip("/") not in sources:
            yield "L14", folder, 1, "no __init__.py"


def check_size(file):
    """L10."""
    if len(file.source.splitlines()) > 399:
        yield "L10", 400, "a long file"
    for number, line in enumerate(file.lines, 1):
        if len(line) > 120 or "\t" in line:
            yield "L10", number, "a long line or a tab"
    for node in file.all_of(ast.FunctionDef):
        if node.end_lineno - node.lineno + 1 > 40:
            yield "L10", node.lineno, "a long function"


def check_imports(file):
    """L2 and the forms of L16."""
    ended = False
    for node in file.tree.body:
        if isinstance(node, (ast.Import, ast.ImportFrom)):
            if ended:
                yield "L2", node.lineno, "an import that's not at the top"
        elif not is_docstring(file, node):
            ended = True
    for node in file.all_of(ast.Import, ast.ImportFrom):
        if not isinstance(file.parent(node), ast.Module):
            yield "L2", node.lineno, "an import within something"
        if isinstance(node, ast.Import):
            if file.name != "__main__.py" or [(one.name, one.asname) for one in node.names] != [("sys", None)]:
                yield "L2", node.lineno, "an import of a module"
        elif node.module == "__future__":
            if [one.name for one in node.names] != ["annotations"]:
                yield "L2", node.lineno, "another future"
        elif node.level or not (node.module + ".").startswith(PACKAGE + ".") or node.module.endswith("__main__"):
            yield "L2", node.lineno, "not one of the package's own by its full name"
        if any(one.name == "*" for one in node.names):
            yield "L2", node.lineno, "all of a module"


def is_plain(node, functions):
    if isinstance(node, ast.UnaryOp) and isinstance(node.op, ast.USub):
        return isinstance(node.operand, ast.Constant) and isinstance(node.operand.value, int)
    if isinstance(node, (ast.List, ast.Tuple)):
        return all(is_plain(one, functions) for one in node.elts)
    if isinstance(node, ast.Dict):
        return all(one is not None and is_plain(one, functions) for one in node.keys + node.values)
    if isinstance(node, ast.Name):
        return node.id in functions
    return isinstance(node, ast.Constant) and (node.value is None or isinstance(node.value, (int, str)))


def check_top(file):
    """L3, and of L15 that a name is bound once and that lists and dicts hold none themselves."""
    functions = set()
    for node in file.tree.body:
        if isinstance(node, ast.FunctionDef):
            functions.add(node.name)
        elif isinstance(node, ast.Assign):
            if len(node.targets) != 1 or not isinstance(node.targets[0], ast.Name):
                yield "L3", node.lineno, "not one name"
            if not is_plain(node.value, functions):
                yield "L3", node.lineno, "no plain value"
            if isinstance(node.value, (ast.List, ast.Dict, ast.Tuple)):
                inner = list(ast.walk(node.value))[1:]
                if any(isinstance(one, (ast.List, ast.Dict)) for one in inner):
                    yield "L15", node.lineno, "a list or dict within a list or dict of the top"
        elif isinstance(node, ast.If) and file.name == "__main__.py":
            if ast.unparse(node.test) != "__name__ == '__main__'" or node.orelse or node is not file.tree.body[-1]:
                yield "L3", node.lineno, "another if"
        elif not isinstance(node, (ast.Import, ast.ImportFrom, ast.ClassDef)) and not is_docstring(file, node):
            yield "L3", node.lineno, "not for a file's top"
    for names in (file.defined, file.imported):
        for name, nodes in names.items():
            if len(nodes) > 1 or (name in file.defined and name in file.imported):
                yield "L15", nodes[-1].lineno, f"{name} is bound twice"


def check_functions(file):
    """L4 and L21."""
    for node in file.all_of(ast.FunctionDef, ast.Lambda):
        args = node.args
        if args.vararg or args.kwarg or args.kwonlyargs or args.posonlyargs:
            yield "L4", node.lineno, "stars or strokes among the parameters"
        for default in args.defaults:
            if not isinstance(default, ast.Constant) or not is_plain(default, ()):
                yield "L4", node.lineno, "a default that is no plain value"
        if any(arg.annotation for arg in args.args) or getattr(node, "returns", None):
            yield "L21", node.lineno, "an annotation"
        if getattr(node, "decorator_list", None):
            yield "L4", node.lineno, "a decorator"


def check_classes(file, classes):
    """L5 and the classes of L15 and L18."""
    for node in file.all_of(ast.ClassDef):
        if node.decorator_list or node.keywords or len(node.bases) > 1:
            yield "L5", node.lineno, "a decorator, a keyword or two bases"
        for base in node.bases:
            if not isinstance(base, ast.Name) or base.id not in classes | set(ERRORS):
                yield "L5", node.lineno, "another base"
            elif base.id in ("StopIteration", "AttributeError"):
                yield "L18", node.lineno, "an error under a base that's not for it"
        if not isinstance(file.parent(node), ast.Module):
            yield "L15", node.lineno, "a class within something"
        seen = set()
        for inner in node.body:
            if isinstance(inner, ast.FunctionDef):
                if inner.name in seen:
                    yield "L18", inner.lineno, "a method that stands twice"
                seen.add(inner.name)
                if inner.name.startswith("__") and inner.name not in DUNDER_METHODS:
                    yield "L5", inner.lineno, "another method with two underscores"
            elif not is_docstring(file, inner) and not isinstance(inner, ast.Pass):
                yield "L5", inner.lineno, "a value in a class's body"


def check_statements(file):
    """L6."""
    for node in file.all_of(ast.stmt):
        if isinstance(node, ast.AnnAssign):
            yield "L21", node.lineno, "an annotation"
        elif not isinstance(node, STATEMENTS):
            yield "L6", node.lineno, "another statement"
        elif isinstance(node, ast.Expr) and not isinstance(node.value, ast.Call) and not is_docstring(file, node):
            yield "L6", node.lineno, "a value by itself"
        elif isinstance(node, (ast.For, ast.While)) and node.orelse:
            yield "L6", node.lineno, "an else behind a loop"
        elif isinstance(node, ast.Assign) and len(node.targets) > 1:
            yield "L6", node.lineno, "two targets"
        elif isinstance(node, ast.Try) and (node.finalbody or not node.handlers):
            yield "L6", node.lineno, "a finally"
    for node in file.all_of(ast.ExceptHandler):
        if node.type is None:
            yield "L6", node.lineno, "an except without a class"


def check_expressions(file):
    """L7."""
    for node in file.nodes:
        line = getattr(node, "lineno", 1)
        if isinstance(node, ast.operator):
            if not isinstance(node, OPERATORS):
                above = file.parent(node)
                yield "L7", getattr(above, "lineno", 1), "another operator"
        elif not isinstance(node, STATEMENTS + EXPRESSIONS + OTHER_NODES) and not isinstance(node, ast.stmt):
            yield "L7", line, "another expression"
        elif isinstance(node, ast.Constant):
            if node.value is not None and not isinstance(node.value, (int, str)):
                yield "L7", line, "another value"
        elif isinstance(node, ast.Dict) and None in node.keys:
            yield "L7", line, "a star"
        elif isinstance(node, ast.keyword) and node.arg is None:
            yield "L7", line, "a star"
        elif isinstance(node, ast.ListComp):
            first = node.generators[0]
            if len(node.generators) > 1 or len(first.ifs) > 1 or first.is_async:
                yield "L7", line, "a comprehension with more"
        elif isinstance(node, ast.FormattedValue):
            if not isinstance(node.value, ast.Name) or node.conversion not in (-1, 114) or node.format_spec:
                yield "L7", line, "more than a name in braces"
        elif isinstance(node, ast.Set) and not file.above(node, ast.FunctionDef):
            yield "L7", line, "a set outside a function"


def is_dunder_allowed(name):
    return name in DUNDER_METHODS + ("__all__", "__version__", "__name__")


def check_names(file):
    """L8, L12 and of L15 how locals are called; L17's names."""
    top = set(file.defined) | set(file.imported)
    for node in file.all_of(ast.Name):
        if isinstance(node.ctx, ast.Load) and node.id not in top:
            around = file.above(node, ast.FunctionDef, ast.Lambda, ast.ListComp)
            if not any(node.id in bound_names(one) for one in around):
                allowed = PLAIN_BUILTINS + ERRORS + (("print", "__name__") if file.name == "__main__.py" else ())
                if node.id not in allowed:
                    yield "L8", node.lineno, f"the name {node.id}"
    for name, line in told_names(file):
        if not re.fullmatch("[A-Za-z][A-Za-z0-9_]*", name) and not is_dunder_allowed(name):
            yield "L12", line, f"the name {name}"
        if name in UNUSED_ANYWHERE or (name in UNUSED_NAMES):
            yield "L17", line, f"the name {name}"
    classes = {name for name, nodes in file.defined.items() if isinstance(nodes[0], ast.ClassDef)}
    for node in file.all_of(ast.FunctionDef, ast.Lambda):
        for name in sorted(bound_names(node)):
            if name in BUILTIN_NAMES | classes | set(file.imported) or keyword.iskeyword(name):
                yield "L15", node.lineno, f"a local called {name}"
    for name in sorted(top):
        if name in BUILTIN_NAMES:
            yield "L8", 1, f"{name} is given another meaning"
    for node in file.all_of(ast.Attribute):
        if node.attr in ("format", "format_map", "mro"):
            yield "L8", node.lineno, f"an attribute {node.attr}"
        if node.attr in UNUSED_ANYWHERE:
            yield "L17", node.lineno, f"an attribute {node.attr}"
        if node.attr.startswith("_") and not is_dunder_allowed(node.attr):
            yield "L12", node.lineno, f"an attribute {node.attr}"


def told_names(file):
    """Give each name that the file binds or reads, with its line."""
    for node in file.nodes:
        if isinstance(node, ast.Name):
            yield node.id, node.lineno
        elif isinstance(node, ast.arg):
            yield node.arg, node.lineno
        elif isinstance(node, (ast.FunctionDef, ast.ClassDef)):
            yield node.name, node.lineno
        elif isinstance(node, ast.ExceptHandler) and node.name:
            yield node.name, node.lineno
        elif isinstance(node, ast.alias):
            yield node.asname or node.name.split(".")[0], node.lineno


def check_words(file):
    """L17's words, L27's texts, and of L9 what reads or prints."""
    for number, line in enumerate(file.lines, 1):
        for word in re.findall("[A-Za-z_0-9]+", line):
            if word in WORDS_NOWHERE or any(part in word for part in PARTS_NOWHERE):
                yield "L17", number, f"the word {word}"
        if re.search(r"\\(?![nt\\'\"])", line.replace("\\\\", "")):
            yield "L27", number, "another escape"
        if re.search("[0-9]{901}", line.replace("_", "")):
            yield "L27", number, "a long number"
    if file.name != "__main__.py":
        for node in file.all_of(ast.Name):
            if node.id in ("print", "sys", "__name__"):
                yield "L9", node.lineno, f"{node.id} outside __main__.py"
    for node in file.all_of(ast.Constant):
        above = file.parent(node)
        if isinstance(node.value, str) and "%" in node.value:
            yield "L27", node.lineno, "a per cent sign in a text"
        if isinstance(node.value, str) and isinstance(above, ast.FormattedValue):
            yield "L27", node.lineno, "a text within braces"
    for node in file.all_of(ast.BinOp):
        if isinstance(node.op, ast.Pow):
            exponent = node.right.value if isinstance(node.right, ast.Constant) else None
            if not isinstance(exponent, int) or not 0 <= exponent <= 64:
                yield "L27", node.lineno, "an exponent that's not written"
    for node in file.all_of(ast.Name):
        if node.id == "chr":
            yield "L27", node.lineno, "chr"


def check_sets(file):
    """L13, and the sets of L24."""
    lambdas = {}
    for node in file.all_of(ast.Lambda):
        key = (node.lineno, ast.unparse(node.args))
        if key in lambdas:
            yield "L13", node.lineno, "two lambdas with the same parameters"
        lambdas[key] = True
    for node in file.all_of(ast.Set):
        above = file.parent(node)
        asked = isinstance(above, ast.Compare) and isinstance(above.ops[0], (ast.In, ast.NotIn))
        if not asked or above.left is node:
            yield "L13", node.lineno, "a set that's not only asked with in"
    for node in file.all_of(ast.Call):
        if is_call_of(node, "set", "frozenset"):
            above = file.parent(node)
            while isinstance(above, ast.BinOp) and isinstance(above.op, (ast.Sub, ast.BitAnd, ast.BitOr, ast.BitXor)):
                above = file.parent(above)
            asked = (ast.In, ast.NotIn, ast.Eq, ast.NotEq)
            compared = isinstance(above, ast.Compare) and isinstance(above.ops[0], asked)
            if not compared and not (is_call_of(above, "sorted", "len") and not above.keywords):
                yield "L24", node.lineno, "a set that is kept or walked"


def check_kept_at_top(file):
    """Of L15: the lists, dicts and tuples of a file's top are only read."""
    kept = {name for name, nodes in file.defined.items()
            if isinstance(nodes[0], ast.Assign) and isinstance(nodes[0].value, (ast.List, ast.Dict, ast.Tuple))}
    for node in file.all_of(ast.Name):
        if node.id not in kept or not file.above(node, ast.FunctionDef):
            continue
        above = file.parent(node)
        read = (
            (isinstance(above, ast.Subscript) and isinstance(above.ctx, ast.Load) and above.value is node)
            or (isinstance(above, (ast.For, ast.comprehension)) and above.iter is node)
            or isinstance(above, ast.Compare)
            or is_call_of(above, *READING)
            or (isinstance(above, ast.Attribute) and above.attr in ("get", "count", "index", "items", "keys", "values"))
        )
        if not read:
            yield "L15", node.lineno, f"{node.id} is more than read"


def check_class_uses(file, classes):
    """Of L18: where a class's name stands."""
    for node in file.all_of(ast.Name):
        if node.id not in classes or not isinstance(node.ctx, ast.Load):
            continue
        above = file.parent(node)
        if isinstance(above, ast.Tuple):
            above = file.parent(above)
        right = (
            (isinstance(above, ast.Call) and above.func is node)
            or (isinstance(above, ast.ClassDef) and node in above.bases)
            or is_call_of(above, "isinstance")
            or isinstance(above, (ast.ExceptHandler, ast.Raise))
            or (isinstance(above, ast.Attribute) and above.attr == "__init__")
        )
        if not right:
            yield "L18", node.lineno, f"the class {node.id} is kept or handed on"
    for node in file.all_of(ast.Attribute):
        if isinstance(node.ctx, ast.Store):
            top = set(file.defined) | set(file.imported)
            if isinstance(node.value, ast.Name) and node.value.id in top:
                yield "L18", node.lineno, "a value given to a name of the top"


def handler_names(handler):
    if handler.type is None:
        return []
    listed = handler.type.elts if isinstance(handler.type, ast.Tuple) else [handler.type]
    return [one.id if isinstance(one, ast.Name) else "" for one in listed]


def check_errors(file, classes):
    """L19; of Python's own errors those that are narrow to take are not taken at all."""
    for node in file.all_of(ast.ExceptHandler):
        names = handler_names(node)
        if not names or any(name not in classes | {"KeyError", "ZeroDivisionError", "StopIteration"} for name in names):
            yield "L19", node.lineno, "an error that's not to be taken"
    for node in file.all_of(ast.Raise):
        if not isinstance(node.exc, ast.Call):
            yield "L19", node.lineno, "an error that's not made on the spot"
        if node.cause is not None:
            handlers = [one.name for one in file.above(node, ast.ExceptHandler)]
            if ast.unparse(node.cause) not in handlers + ["None"]:
                yield "L19", node.lineno, "from something else"


def check_is(file):
    """L20."""
    for node in file.all_of(ast.Compare):
        for op, value in zip(node.ops, node.comparators):
            if isinstance(op, (ast.Is, ast.IsNot)):
                if not isinstance(value, ast.Constant) or value.value not in (None, True, False):
                    yield "L20", node.lineno, "is beside something else"


def check_builtins(file):
    """L22."""
    own = set(file.defined) | set(file.imported)
    for node in file.all_of(ast.Name):
        if node.id not in PLAIN_BUILTINS or node.id in own:
            continue
        above = file.parent(node)
        around = file.parent(above) if isinstance(above, ast.Tuple) else above
        called = isinstance(above, ast.Call) and above.func is node
        as_key = isinstance(above, ast.keyword) and above.arg == "key" and node.id in AS_KEY
        asked = is_call_of(around, "isinstance") and node.id in INSTANCE_OF
        if not (called or as_key or asked):
            yield "L22", node.lineno, f"{node.id} is kept as a value"
    for node in file.all_of(ast.Call):
        named = [one.arg for one in node.keywords]
        if isinstance(node.func, ast.Name) and node.func.id in PLAIN_BUILTINS + ERRORS:
            if any(one not in KEYWORDS.get(node.func.id, ()) for one in named):
                yield "L22", node.lineno, "another keyword"
        if isinstance(node.func, ast.Attribute) and node.func.attr in VALUE_METHODS and named:
            yield "L22", node.lineno, "a keyword at a method"


def is_walked(node):
    return is_call_of(node, *WALKED) or (is_method_call(node, *WALKED_METHODS) and not node.args)


def walked_names(node):
    """Give what a loop walks, as written: itself, or what stands in enumerate, zip and their like."""
    if is_call_of(node, "enumerate", "zip", "reversed"):
        return [name for one in node.args for name in walked_names(one)]
    if is_method_call(node, *WALKED_METHODS):
        return [ast.unparse(node.func.value)]
    return [ast.unparse(node)] if isinstance(node, (ast.Name, ast.Attribute)) else []


def check_walks(file):
    """L23."""
    for node in file.all_of(ast.Call):
        if not is_walked(node):
            continue
        above = file.parent(node)
        right = (
            (isinstance(above, (ast.For, ast.comprehension)) and above.iter is node)
            or (is_call_of(above, *FIRST_IN) and above.args[0] is node)
            or (is_call_of(above, "zip") and node in above.args)
            or (is_call_of(above, "min", "max") and above.args == [node])
            or (is_method_call(above, "join") and isinstance(above.func.value, ast.Constant))
        )
        if not right:
            yield "L23", node.lineno, "not walked on the spot"
    for loop in file.all_of(ast.For):
        walked = walked_names(loop.iter)
        for node in [inner for one in loop.body for inner in ast.walk(one)]:
            changed = None
            if isinstance(node, ast.Subscript) and isinstance(node.ctx, ast.Store):
                changed = ast.unparse(node.value)
            elif is_method_call(node, *CHANGING):
                changed = ast.unparse(node.func.value)
            elif isinstance(node, ast.AugAssign):
                changed = ast.unparse(node.target)
            if changed in walked:
                yield "L23", node.lineno, "what is walked is changed"


def check_methods(file, methods, values):
    """L25, and how methods are handed on."""
    for node in file.all_of(ast.Attribute):
        above = file.parent(node)
        called = isinstance(above, ast.Call) and above.func is node
        if "sys" in file.imported and ast.unparse(node).startswith("sys."):
            continue
        if called and node.attr not in VALUE_METHODS and node.attr not in methods and node.attr not in values:
            yield "L25", node.lineno, f"the method {node.attr}"
        as_key = isinstance(above, ast.keyword) and above.arg == "key"
        if not called and not as_key and isinstance(node.ctx, ast.Load) and node.attr not in values:
            yield "L25", node.lineno, f"{node.attr} is handed on"


def check_own_names(methods, values):
    """L26, and of L18 that no name is both a method and a value."""
    for name, places in methods.items():
        if name in METHODS_OF_VALUES and name not in VALUE_METHODS + ["add", "discard"] and name not in DUNDER_METHODS:
            yield "L26", places[0][0].path, places[0][1].lineno, f"a method called {name}"
        if name in values:
            yield "L18", places[0][0].path, places[0][1].lineno, f"{name} is a method and a value"
    for name, places in values.items():
        taken = name in METHODS_OF_VALUES and name not in FREE_VALUES
        if taken or name in ("args", "encode", "format", "sort"):
            yield "L26", places[0][0].path, places[0][1].lineno, f"a value called {name}"


def check_dunders(file):
    """L28."""
    for node in file.all_of(ast.FunctionDef):
        if node.name not in DUNDER_METHODS:
            continue
        for inner in ast.walk(node):
            if node.name == "__init__":
                if isinstance(inner, ast.Return) and inner.value is not None:
                    yield "L28", inner.lineno, "__init__ gives something back"
            elif isinstance(inner, ast.AugAssign) or is_method_call(inner, *CHANGING):
                yield "L28", inner.lineno, "a change where none may be"
            elif isinstance(inner, (ast.Attribute, ast.Subscript)) and isinstance(inner.ctx, ast.Store):
                yield "L28", inner.lineno, "a change where none may be"
            elif node.name == "__len__" and isinstance(inner, ast.Return):
                if not is_call_of(inner.value, "len") and not isinstance(inner.value, ast.Constant):
                    yield "L28", inner.lineno, "another length"
    for node in file.all_of(ast.Call):
        if is_method_call(node, "__init__"):
            if not node.args or ast.unparse(node.args[0]) != "self" or not isinstance(node.func.value, ast.Name):
                yield "L28", node.lineno, "a base's __init__ called otherwise"


def check_draws(files):
    """L16: what files draw from one another, and the interface."""
    by_module = {module_of(file.path): file for file in files}
    draws = {name: set() for name in by_module}
    for name, file in by_module.items():
        for node in file.all_of(ast.ImportFrom):
            if node.module not in by_module:
                if node.module != "__future__":
                    yield "L16", file.path, node.lineno, "from no file of the package"
                continue
            draws[name].add(node.module)
            above = node.module.split(".")
            draws[name] |= {".".join(above[:size]) for size in range(1, len(above))} & set(by_module) - {name}
            for alias in node.names:
                if alias.name not in by_module[node.module].defined:
                    yield "L16", file.path, node.lineno, f"{alias.name} is defined elsewhere"
    for name in by_module:
        reached, ahead = set(), list(draws[name])
        while ahead:
            one = ahead.pop()
            if one not in reached:
                reached.add(one)
                ahead.extend(draws[one])
        if name in reached:
            yield "L16", by_module[name].path, 1, "files that draw from one another"
    for file in files:
        if file.name == "__init__.py":
            names = {other.name[:-3] for other in files} & (set(file.defined) | set(file.imported))
            if names:
                yield "L16", file.path, 1, "a name that one of its files has"
    for path, names in INTERFACE.items():
        for name in names:
            holders = [file.path for file in files
                       if name in file.defined and isinstance(file.defined[name][0], (ast.FunctionDef, ast.ClassDef))]
            if holders != [path]:
                yield "L16", path, 1, f"{name} has to be written here alone"
    for file in files:
        for name in INTERFACE.get(file.path, ()):
            for node in file.defined.get(name, []):
                if not isinstance(node, ast.FunctionDef) or node.args.defaults:
                    yield "L16", file.path, node.lineno, f"{name} is not written plainly"


def broken_rules(sources):
    """Give each break of a rule: (rule, path, line, words)."""
    files = [File(path, source) for path, source in sources.items()]
    classes = own_classes(files)
    methods, values = methods_and_values(files)
    found = list(check_files(files, sources)) + list(check_draws(files)) + list(check_own_names(methods, values))
    for file in files:
        alone = (check_size, check_imports, check_top, check_functions, check_statements, check_expressions,
                 check_names, check_words, check_sets, check_kept_at_top, check_is, check_builtins, check_walks,
                 check_dunders)
        told = [one for check in alone for one in check(file)]
        told += [one for check in (check_classes, check_class_uses, check_errors) for one in check(file, classes)]
        told += list(check_methods(file, methods, values))
        found += [(rule, file.path, line, words) for rule, line, words in told]
    return found
