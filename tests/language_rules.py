"""Checks of the rules of the language that a few lines can check. Each one yields (rule, line, what) of a file."""

import ast
import builtins
import re
import tokenize
import io

BUILTINS = set("""len range enumerate zip min max sum abs sorted reversed int str bool bytes list tuple dict set frozenset
isinstance ord repr any all divmod iter next map Exception ValueError TypeError KeyError IndexError LookupError
ZeroDivisionError ArithmeticError OverflowError RuntimeError NotImplementedError AttributeError StopIteration
NotImplemented""".split())
METHODS = set("""append clear copy count endswith extend find get index insert isalnum isalpha isdigit islower isspace
isupper items join keys ljust lower lstrip partition pop remove replace reverse rfind rjust rpartition rsplit rstrip
setdefault split splitlines startswith strip update upper values zfill bit_length title capitalize swapcase casefold
expandtabs removeprefix removesuffix rindex isascii isdecimal isnumeric istitle isidentifier isprintable""".split())
DUNDERS = set("""__init__ __eq__ __repr__ __str__ __len__ __enter__ __exit__ __call__ __iter__ __lt__ __le__ __gt__ __ge__
__ne__ __add__ __sub__ __mul__ __floordiv__ __mod__ __pow__ __and__ __or__ __xor__ __lshift__ __rshift__ __neg__ __pos__
__invert__ __abs__ __bool__ __contains__ __getitem__ __setitem__ __iadd__ __irshift__""".split())
OPERATORS = DUNDERS - {"__init__", "__enter__", "__exit__", "__call__", "__iter__", "__setitem__", "__iadd__", "__irshift__"}
BARRED = set("""register mro elements open input law version_info with_traceback add_note attrgetter breakpoint builtins
compile copyright credits delattr dir eval exec exit gc getattr globals hasattr help id importlib license locals
methodcaller os quit setattr type vars sys""".split())
WORDS = re.compile(r"\b(type|typing|typing_extensions|enum|Enum|IntEnum|StrEnum|Flag|IntFlag|Generic|Protocol|ABC|ABCMeta|"
                   r"namedtuple|NamedTuple|TypedDict|TYPE_CHECKING|abstractmethod)\b|dataclass|overload|contextmanager")
NOT_ATTRIBUTES = set("""items keys values pop update append clear extend insert remove reverse setdefault sort args encode
decode hex fromhex format format_map mro as_integer_ratio bit_count conjugate from_bytes is_integer to_bytes""".split())
CHANGERS = {"append", "clear", "extend", "insert", "pop", "remove", "reverse", "setdefault", "update", "sort", "add",
            "discard"}
LAZY = {"zip", "enumerate", "reversed", "range", "map"}
TAKERS = {"list", "tuple", "dict", "sorted", "sum", "any", "all", "enumerate", "zip", "min", "max"}
FUNCTIONS = (ast.FunctionDef, ast.AsyncFunctionDef)
COMPREHENSIONS = (ast.ListComp, ast.DictComp, ast.SetComp)


class File:
    """A file of the package, parsed, with the node above each node."""

    def __init__(self, name, text):
        self.name = name
        self.text = text
        self.tree = ast.parse(text)
        self.above = {child: node for node in ast.walk(self.tree) for child in ast.iter_child_nodes(node)}

    def nodes(self, *kinds):
        return [node for node in ast.walk(self.tree) if isinstance(node, kinds)]

    def functions(self):
        return self.nodes(*FUNCTIONS)

    def classes(self):
        return self.nodes(ast.ClassDef)


def called(node):
    """The plain name that a call calls."""
    return node.func.id if isinstance(node, ast.Call) and isinstance(node.func, ast.Name) else None


def sizes(file):
    lines = file.text.split("\n")
    if len(lines) - 1 > 399:
        yield "L10", 1, "file of more than 399 lines"
    for number, line in enumerate(lines, 1):
        if len(line) > 120:
            yield "L10", number, "line of more than 120 characters"
        if line != line.rstrip():
            yield "style", number, "blanks at the end"
    for node in file.functions():
        if node.end_lineno - node.lineno + 1 > 40:
            yield "L10", node.lineno, "function of more than 40 lines"


def characters(file):
    for number, line in enumerate(file.text.split("\n"), 1):
        if any(not " " <= letter <= "~" for letter in line):
            yield "L14", number, "character"
    for node in file.nodes(ast.Constant):
        if isinstance(node.value, str):
            if "%" in node.value or node.value.endswith(("._", ".__")):
                yield "L27", node.lineno, "string"
            if node.value.startswith("__") and node.value.endswith("__"):
                yield "L27", node.lineno, "string with underscores at both ends"
        if isinstance(node.value, (float, complex, bytes)):
            yield "L7", node.lineno, "kind of value"
    for token in tokenize.generate_tokens(io.StringIO(file.text).readline):
        if token.type == tokenize.STRING and re.search(r"\\[^n\"'\\t]", token.string):
            yield "L27", token.start[0], "escape"


def words(file):
    code = []
    for token in tokenize.generate_tokens(io.StringIO(file.text).readline):
        if token.type not in (tokenize.COMMENT, tokenize.STRING) and WORDS.search(token.string):
            code.append(token.start[0])
    for line in code:
        yield "L17", line, "word"
    for bad in ("(type)", "Meta", "metaclass=", "_wall", "_WallAttr"):
        if bad in file.text:
            yield "L17", 1, bad


def imports(file):
    seen_other = False
    for node in file.tree.body:
        if isinstance(node, ast.ImportFrom):
            if seen_other:
                yield "L2", node.lineno, "import below other code"
            if node.level or not (node.module or "").startswith("blindrepair."):
                yield "L2", node.lineno, "import from elsewhere"
            if any(name.name == "*" or name.asname for name in node.names):
                yield "L2", node.lineno, "star or other name"
        elif not (isinstance(node, ast.Expr) and isinstance(node.value, ast.Constant)):
            seen_other = True
    if file.nodes(ast.Import) or len(file.nodes(ast.ImportFrom)) != sum(
            isinstance(node, ast.ImportFrom) for node in file.tree.body):
        yield "L2", 1, "import inside or of a module"


def module_level(file):
    for at, node in enumerate(file.tree.body):
        docstring = at == 0 and isinstance(node, ast.Expr) and isinstance(node.value, ast.Constant)
        plain = (isinstance(node, ast.Assign) and len(node.targets) == 1 and isinstance(node.targets[0], ast.Name)
                 and not any(isinstance(each, (ast.Call, ast.Set, *COMPREHENSIONS)) for each in ast.walk(node.value)))
        if not (docstring or plain or isinstance(node, (ast.ImportFrom, ast.FunctionDef, ast.ClassDef))):
            yield "L3", node.lineno, "statement at module level"
    bound = [node.name for node in file.tree.body if isinstance(node, (ast.FunctionDef, ast.ClassDef))]
    bound += [node.targets[0].id for node in file.tree.body if isinstance(node, ast.Assign)]
    bound += [name.name for node in file.nodes(ast.ImportFrom) for name in node.names]
    for name in set(bound):
        if bound.count(name) > 1:
            yield "L15", 1, f"{name} is bound twice"


def forbidden_nodes(file):
    for node in file.nodes(ast.Global, ast.AsyncFunctionDef, ast.AsyncFor, ast.AsyncWith, ast.Await, ast.GeneratorExp,
                           ast.Div, ast.Set, ast.SetComp, ast.AnnAssign, ast.Match, ast.NamedExpr, ast.Lambda,
                           ast.Nonlocal):
        yield "L6/L7/L24", getattr(node, "lineno", 0), type(node).__name__
    for node in file.functions():
        if node.returns or any(each.annotation for each in node.args.args):
            yield "L21", node.lineno, "annotation"
        for each in node.decorator_list:
            setter = isinstance(each, ast.Attribute) and each.attr == "setter" and each.value.id == node.name
            if not setter and (not isinstance(each, ast.Name) or each.id not in ("staticmethod", "classmethod", "property")):
                yield "L4", node.lineno, "decorator"
    for node in file.nodes(ast.Compare):
        sides = [node.left, *node.comparators]
        for at, sign in enumerate(node.ops):
            if isinstance(sign, (ast.Is, ast.IsNot)) and not isinstance(sides[at + 1], ast.Constant):
                yield "L20", node.lineno, "is"
    for node in file.nodes(ast.BinOp):
        literal = isinstance(node.right, ast.Constant) and isinstance(node.left, ast.Constant)
        if isinstance(node.op, ast.Pow) and not literal:
            yield "L27", node.lineno, "power"
        number = called(node.left) == "len" or (isinstance(node.left, ast.BinOp) and isinstance(node.left.op, ast.Sub))
        if isinstance(node.op, ast.Mod) and not number:
            yield "L7", node.lineno, "remainder of what is not plainly a number"


def blocks(file, own_errors):
    """L6, L19: what stands in try and with statements, and in __exit__."""
    for node in file.nodes(ast.Try):
        if node.finalbody or node.orelse:
            yield "L6", node.lineno, "finally or else"
        for handler in node.handlers:
            if not isinstance(handler.type, ast.Name) or handler.type.id not in own_errors:
                yield "L19", handler.lineno, "what is caught is no error of the package"
            reads = [each for each in ast.walk(handler) if isinstance(each, ast.Name) and each.id == handler.name]
            for each in reads:
                if not isinstance(file.above[each], ast.Attribute) or file.above[each].attr == "args":
                    yield "L19", each.lineno, "a caught error is not read by an attribute"
    for node in file.nodes(ast.Raise):
        if node.exc is None:
            above = node
            while not isinstance(above, (ast.ExceptHandler, *FUNCTIONS)):
                above = file.above[above]
            if not isinstance(above, ast.ExceptHandler):
                yield "L19", node.lineno, "bare raise outside of a handler"
        elif called(node.exc) is None:
            yield "L19", node.lineno, "the error is not created on the spot"
    for node in file.nodes(ast.With):
        for item in node.items:
            if not isinstance(item.context_expr, (ast.Call, ast.Name, ast.Attribute)):
                yield "L6", node.lineno, "with"
        if any(isinstance(each, (ast.Yield, ast.YieldFrom)) for each in ast.walk(node)):
            yield "L23", node.lineno, "yield in a with"
    for node in file.functions():
        if node.name == "__exit__":
            for each in node.body:
                plain = isinstance(each, ast.Assign) and all(
                    isinstance(part, (ast.Assign, ast.Attribute, ast.Name, ast.expr_context)) for part in ast.walk(each))
                if not plain or any(isinstance(part, ast.Name) and part.id in ("value", "trace") for part in ast.walk(each)):
                    yield "L6", each.lineno, "__exit__"
    for node in file.nodes(ast.Attribute):
        if node.attr == "__class__" and not (isinstance(file.above[node], ast.Attribute)
                                             and file.above[node].attr == "__name__"):
            yield "L8", node.lineno, "__class__"


def names(file):
    known = {node.name for node in file.nodes(ast.ClassDef)}
    known |= {name.name for node in file.nodes(ast.ImportFrom) for name in node.names}
    for node in file.functions():
        local = [each.arg for each in ast.walk(node.args) if isinstance(each, ast.arg)]
        local += [each.id for each in ast.walk(node) if isinstance(each, ast.Name) and isinstance(each.ctx, ast.Store)]
        for name in local:
            if name in known or hasattr(builtins, name) or name in BARRED:
                yield "L15", node.lineno, f"name {name}"
            if name.startswith("__") or not re.fullmatch(r"_|_?[A-Za-z][A-Za-z0-9_]*", name):
                yield "L12", node.lineno, f"name {name}"
        if not isinstance(file.above[node], ast.ClassDef) and (hasattr(builtins, node.name) or node.name in BARRED):
            yield "L15", node.lineno, f"function {node.name}"
        if node.name.startswith("__") and node.name not in DUNDERS:
            yield "L5", node.lineno, node.name
    for node in file.nodes(ast.Name):
        if isinstance(node.ctx, ast.Load) and hasattr(builtins, node.id):
            if node.id not in BUILTINS | {"staticmethod", "classmethod", "property"}:
                yield "L8", node.lineno, f"builtin {node.id}"
    for node in file.nodes(ast.Attribute):
        if isinstance(node.ctx, ast.Store) and (node.attr in NOT_ATTRIBUTES or node.attr in BARRED):
            yield "L26", node.lineno, f"attribute {node.attr}"


def taken_at_once(file, node):
    """Whether a call of zip, range and the like stands where it is iterated on the spot."""
    up = file.above[node]
    if isinstance(up, (ast.For, ast.comprehension)):
        return up.iter is node
    if called(up) in TAKERS:
        return up.args[0] is node
    return isinstance(up, ast.Compare) and called(node) == "range" and isinstance(up.ops[0], (ast.In, ast.NotIn))


def calls(file, own_methods):
    for node in file.nodes(ast.Call):
        name = called(node)
        lazy = name in LAZY or (isinstance(node.func, ast.Attribute) and node.func.attr in ("items", "keys", "values"))
        if lazy and not taken_at_once(file, node):
            yield "L23", node.lineno, "not iterated at once"
        if name in ("sorted", "min", "max") and not plain_strings(node):
            yield "L5", node.lineno, f"{name} of what is not plainly numbers or strings"
        if name in ("set", "frozenset", "bytes", "chr"):
            yield "L24", node.lineno, name
        if name == "reversed" and called(node.args[0]) not in ("list", "tuple", "sorted", "range"):
            yield "L5", node.lineno, "reversed"
        if name in BUILTINS and node.keywords and not (name == "sorted" and sorted_by_length(node)):
            yield "L22", node.lineno, "keyword"
        if isinstance(node.func, ast.Attribute) and node.func.attr not in METHODS | own_methods | {"__init__"}:
            yield "L25", node.lineno, f"method {node.func.attr}"
        if isinstance(node.func, ast.Attribute) and node.func.attr == "join":
            if not isinstance(node.func.value, ast.Constant):
                yield "L25", node.lineno, "join of what is no literal"
        for each in node.args:
            if isinstance(each, ast.Starred) and not isinstance(each.value, ast.Name):
                yield "L7", node.lineno, "star"


def sorted_by_length(node):
    """Whether a call has key=len, and nothing else by name."""
    return [(each.arg, isinstance(each.value, ast.Name) and each.value.id) for each in node.keywords] == [("key", "len")]


def plain_strings(node):
    """Whether the argument of sorted is a list comprehension of str(..) or len(..), or of two one is a number."""
    if sorted_by_length(node):
        return True
    if len(node.args) == 1 and isinstance(node.args[0], ast.ListComp):
        return called(node.args[0].elt) in ("str", "len", "int")
    return len(node.args) == 2 and any(isinstance(each, ast.Constant) or called(each) == "len" for each in node.args)


def classes(file):
    for node in file.classes():
        methods = {each.name: each for each in node.body if isinstance(each, ast.FunctionDef)}
        if "__getitem__" in methods and "__iter__" not in methods:
            yield "L5", node.lineno, "__getitem__ without __iter__"
        if "__iter__" in methods and len(methods["__iter__"].body) != 1:
            yield "L5", node.lineno, "__iter__"
        if "__len__" in methods:
            told = methods["__len__"].body
            if len(told) != 1 or not isinstance(told[0], ast.Return) or called(told[0].value) != "len":
                yield "L28", node.lineno, "__len__"
        for name in ("__str__", "__bool__", "__eq__"):
            if name in methods and not isinstance(methods[name].body[-1], ast.Return):
                yield "L28", node.lineno, name
        for each in node.body:
            if not isinstance(each, (ast.FunctionDef, ast.Assign)) and each is not node.body[0]:
                yield "L5", each.lineno, "statement in a class"


def changes(function):
    """What a function changes that it has not made itself by a literal, list, dict, sorted or list comprehension."""
    made, remade = set(), set()
    for node in ast.walk(function):
        if isinstance(node, ast.Assign):
            for target in node.targets:
                if isinstance(target, ast.Name):
                    fresh = isinstance(node.value, (ast.List, ast.Dict, ast.ListComp)) or called(node.value) in (
                        "list", "dict", "sorted")
                    (made if fresh else remade).add(target.id)
                elif isinstance(target, ast.Attribute):
                    yield target.lineno, "attribute"
                elif isinstance(target, ast.Subscript):
                    yield target.lineno, target.value
        elif isinstance(node, ast.AugAssign):
            literal = isinstance(node.value, ast.Constant) and isinstance(node.value.value, int)
            if not isinstance(node.target, ast.Name) or not literal:
                yield node.lineno, "in-place"
        elif isinstance(node, ast.Call) and isinstance(node.func, ast.Attribute):
            if node.func.attr in CHANGERS:
                yield node.lineno, node.func.value
        elif isinstance(node, ast.Delete):
            yield node.lineno, "del"
    yield 0, made - remade


def impure(function):
    """The lines in which a function changes what it has not made itself."""
    found = list(changes(function))
    made = found.pop()[1]
    return [line for line, what in found if not (isinstance(what, ast.Name) and what.id in made)]


def operators(files):
    """L5: what operators, ==, str, len and properties run changes nothing but what it makes itself."""
    told = {}
    callable_names = set()
    for file in files:
        for node in file.functions():
            told.setdefault(node.name, []).append((file, node))
        callable_names |= {node.name for node in file.classes()}
    waiting = [(file, node) for name in OPERATORS for file, node in told.get(name, [])]
    waiting += [(file, node) for each in told.values() for file, node in each
                if any(isinstance(mark, ast.Name) and mark.id == "property" for mark in node.decorator_list)]
    seen = set()
    while waiting:
        file, node = waiting.pop()
        if node in seen:
            continue
        seen.add(node)
        if node.name != "__init__":
            for line in impure(node):
                yield file.name, "L5", line, f"{node.name} changes something, and an operator runs it"
        for call in ast.walk(node):
            if isinstance(call, ast.Call):
                name = call.func.attr if isinstance(call.func, ast.Attribute) else called(call)
                if name in callable_names:
                    waiting += [(other, each) for other, each in told.get("__init__", [])
                                if other.above[each].name == name]
                elif name != "__init__":
                    waiting += told.get(name, [])
                local = [arg.arg for arg in ast.walk(node.args) if isinstance(arg, ast.arg)]
                if called(call) in local:
                    yield file.name, "L5", call.lineno, "an operator runs a call of an argument"


def all_faults(texts):
    """All faults of the files of a package, a dict from names to texts: (file, rule, line, what)."""
    files = [File(name, text) for name, text in sorted(texts.items())]
    own_methods = {node.name for file in files for node in file.functions()}
    own_errors = {node.name for file in files for node in file.classes() if file.name == "errors.py"}
    found = []
    for file in files:
        for check in (sizes, characters, words, imports, module_level, forbidden_nodes, names, classes,
                      changes_of_what_is_read):
            found += [(file.name, *fault) for fault in check(file)]
        found += [(file.name, *fault) for fault in calls(file, own_methods)]
        found += [(file.name, *fault) for fault in blocks(file, own_errors)]
    return found + list(operators(files)) + list(cycles(files)) + list(origins(files)) + list(shared_names(files))


def changed_in_place(node):
    """What a node changes without giving it a name anew, None if it changes nothing."""
    if isinstance(node, ast.AugAssign):
        return node.target
    if isinstance(node, ast.Subscript) and isinstance(node.ctx, (ast.Store, ast.Del)):
        return node.value
    if isinstance(node, ast.Call) and isinstance(node.func, ast.Attribute) and node.func.attr in CHANGERS:
        return node.func.value
    return None


def gone_over(node):
    """All that a loop over a value goes over."""
    if called(node) in ("enumerate", "zip", "reversed"):
        return [part for each in node.args for part in gone_over(each)]
    if isinstance(node, ast.Call) and isinstance(node.func, ast.Attribute) and node.func.attr in ("items", "keys", "values"):
        return [node.func.value]
    if isinstance(node, ast.IfExp):
        return gone_over(node.body) + gone_over(node.orelse)
    if isinstance(node, ast.BoolOp):
        return [part for each in node.values for part in gone_over(each)]
    return [node]


def loops(file):
    """The pairs of what a loop or a comprehension goes over and the nodes inside it."""
    for node in file.nodes(ast.For):
        yield gone_over(node.iter), [part for each in node.body for part in ast.walk(each)]
    for node in file.nodes(*COMPREHENSIONS, ast.GeneratorExp):
        yield [part for each in node.generators for part in gone_over(each.iter)], list(ast.walk(node))


def changes_of_what_is_read(file):
    """L5, L23: nothing gets itself while it is changed, and no loop changes what it goes over."""
    pairs = [(node, node.target, node.value) for node in file.nodes(ast.AugAssign)]
    pairs += [(node, node.func.value, each) for node in file.nodes(ast.Call) if isinstance(node.func, ast.Attribute)
              and node.func.attr in ("extend", "update") for each in node.args]
    for node, target, handed in pairs:
        if ast.unparse(target) in [ast.unparse(part) for part in ast.walk(handed) if isinstance(part, ast.expr)]:
            yield "L5", node.lineno, "what is changed gets what it changes"
    for over, inside in loops(file):
        told = [ast.unparse(each) for each in over]
        for node in inside:
            target = changed_in_place(node)
            if target is not None and ast.unparse(target) in told:
                yield "L23", node.lineno, "a loop changes what it goes over"


def marks(node):
    """The names of the decorators of a function."""
    return [each.id if isinstance(each, ast.Name) else each.attr for each in node.decorator_list]


def shared_names(files):
    """L5, L18, L23: names of properties, of static and class methods and of generators mean nothing else."""
    stored = [(file, node) for file in files for node in file.nodes(ast.Attribute) if isinstance(node.ctx, ast.Store)]
    functions = [(file, node) for file in files for node in file.functions()]
    plain = {node.name for file, node in functions if not marks(node)}
    marked = {node.name: marks(node)[0] for file, node in functions if marks(node) and marks(node) != ["setter"]}
    methods_of_classes = {node.name for file, node in functions if isinstance(file.above[node], ast.ClassDef)}
    for file, node in stored:
        if node.attr in methods_of_classes:
            yield file.name, "L18", node.lineno, f"{node.attr} is stored, and it is a method"
        if node.attr in marked:
            yield file.name, "L5", node.lineno, f"{node.attr} is stored, and it is a {marked[node.attr]} elsewhere"
    for file, node in functions:
        if node.name in marked and not marks(node) and isinstance(file.above[node], ast.ClassDef):
            yield file.name, "L5", node.lineno, f"{node.name} is a plain method, and a {marked[node.name]} elsewhere"
        if "property" in marks(node) and (node.name in plain or node.name in METHODS):
            yield file.name, "L5", node.lineno, f"{node.name} is a property and a function"
        generator = any(isinstance(each, (ast.Yield, ast.YieldFrom)) for each in ast.walk(node))
        if generator and [other.name for _, other in functions].count(node.name) > 1:
            yield file.name, "L23", node.lineno, f"{node.name} is a generator and another function"
    for file in files:
        for node in file.classes():
            methods = {each.name for each in node.body if isinstance(each, ast.FunctionDef)}
            for each in ast.walk(node):
                if isinstance(each, ast.Attribute) and isinstance(each.ctx, ast.Store) and each.attr in methods:
                    yield file.name, "L18", each.lineno, f"{each.attr} is a method and an attribute"


def cycles(files):
    """L16: no two files import from each other, neither directly nor through other files."""
    told = {file.name[:-3]: [(node.module or "").partition(".")[2] for node in file.nodes(ast.ImportFrom)] for file in files}
    for start in told:
        seen, waiting = set(), list(told[start])
        while waiting:
            name = waiting.pop()
            if name == start:
                yield start, "L16", 1, "imports itself through other files"
            if name not in seen:
                seen.add(name)
                waiting += told.get(name, [])


def origins(files):
    """L16: each import names the very file that defines the name; L17: and the name is used."""
    defined = {}
    for file in files:
        defined[file.name[:-3]] = {node.name for node in file.tree.body if isinstance(node, (ast.FunctionDef, ast.ClassDef))}
        defined[file.name[:-3]] |= {node.targets[0].id for node in file.tree.body if isinstance(node, ast.Assign)}
    for file in files:
        used = {node.id for node in file.nodes(ast.Name)}
        for node in file.nodes(ast.ImportFrom):
            for name in node.names:
                if name.name not in defined.get((node.module or "").partition(".")[2], ()):
                    yield file.name, "L16", node.lineno, f"{name.name} is not defined there"
                if name.name not in used:
                    yield file.name, "style", node.lineno, f"{name.name} is not used"
