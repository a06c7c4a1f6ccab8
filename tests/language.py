"""A reader of the package's files that finds what the language of the program leaves out.

It checks what can be seen file by file; the numbers are those of the language's rules.
"""

import ast
import builtins
import io
import re
import tokenize
import warnings

BUILTINS = set(
    "len range enumerate zip min max sum abs sorted reversed int str bool bytes list tuple dict set isinstance ord repr "
    "any all divmod map iter next type Exception ValueError TypeError KeyError IndexError LookupError "
    "ZeroDivisionError ArithmeticError OverflowError RuntimeError NotImplementedError StopIteration NotImplemented "
    "super property staticmethod classmethod".split()
)
METHODS = set(
    "append clear copy count endswith extend find get index insert isalnum isalpha isdigit islower isspace isupper items "
    "join keys ljust lower lstrip partition pop remove replace reverse rfind rjust rpartition rsplit rstrip setdefault "
    "split splitlines startswith strip update upper values zfill bit_length add discard".split()
)
DOUBLE = set(
    "__init__ __eq__ __repr__ __str__ __len__ __enter__ __exit__ __call__ __iter__ __add__ __getitem__ __contains__".split()
)
STATEMENTS = (
    ast.Assign, ast.AugAssign, ast.If, ast.While, ast.For, ast.Return, ast.Break, ast.Continue, ast.Pass, ast.Raise,
    ast.Assert, ast.Delete, ast.With, ast.Try, ast.Expr, ast.FunctionDef, ast.ClassDef, ast.ImportFrom,
)
EXPRESSIONS = (
    ast.BoolOp, ast.BinOp, ast.UnaryOp, ast.Lambda, ast.IfExp, ast.Dict, ast.Set, ast.ListComp, ast.SetComp,
    ast.DictComp, ast.GeneratorExp, ast.Compare, ast.Call, ast.FormattedValue, ast.JoinedStr, ast.Constant,
    ast.Attribute, ast.Subscript, ast.Starred, ast.Name, ast.List, ast.Tuple, ast.Slice,
)
BARRED = set("mro elements open input law version_info with_traceback add_note register".split())
BARRED_WORDS = re.compile(
    r"\b(type|typing|typing_extensions|enum|Enum|IntEnum|StrEnum|Flag|IntFlag|Generic|Protocol|ABC|ABCMeta|namedtuple|"
    r"NamedTuple|TypedDict|TYPE_CHECKING|abstractmethod|_wall|_WallAttr)\b|dataclass|overload|contextmanager|metaclass="
)
ESCAPES = re.compile(r"""([^\\]|\\[nt'"\\]|\\u[0-9a-f]{4}|\\U[0-9a-f]{8})*""")
LIBRARY = {"heapq", "math", "itertools", "collections"}


class Finder:
    """What one file breaks, as a list of (rule, line)."""

    def __init__(self, text, package, methods):
        self.found = []
        self.package = package
        self.methods = METHODS | methods
        self.text = text
        with warnings.catch_warnings():
            warnings.simplefilter("error")
            self.tree = ast.parse(text)
        self.lines()
        self.module()
        for node in ast.walk(self.tree):
            self.node(node)

    def tell(self, rule, node):
        self.found.append((rule, getattr(node, "lineno", node)))

    def lines(self):
        lines = self.text.split("\n")
        if len(lines) > 400:
            self.tell("L10 file", len(lines))
        for number, line in enumerate(lines, 1):
            if len(line) > 120:
                self.tell("L10 line", number)
            if not all(" " <= character <= "~" for character in line):
                self.tell("L14", number)
            if BARRED_WORDS.search(line.split("#")[0]):
                self.tell("L17 word", number)
        for token in tokenize.generate_tokens(io.StringIO(self.text).readline):
            if token.type == tokenize.STRING and not ESCAPES.fullmatch(token.string):
                self.tell("L27 escape", token.start[0])

    def module(self):
        bound = []
        for at, node in enumerate(self.tree.body):
            if isinstance(node, ast.Expr) and at == 0 and isinstance(node.value, ast.Constant):
                continue
            if isinstance(node, ast.ImportFrom):
                bound += [name.name for name in node.names]
                if node.level or not (node.module.startswith(self.package + ".") or node.module in LIBRARY):
                    self.tell("L2", node)
                if any(name.asname or name.name == "*" for name in node.names):
                    self.tell("L2", node)
            elif isinstance(node, (ast.FunctionDef, ast.ClassDef)):
                bound.append(node.name)
            elif isinstance(node, ast.Assign) and len(node.targets) == 1 and isinstance(node.targets[0], ast.Name):
                bound.append(node.targets[0].id)
                self.plain(node.value)
            else:
                self.tell("L3", node)
        for name in bound:
            if bound.count(name) > 1:
                self.tell(f"L15 {name}", 0)
        self.bound = set(bound)
        self.outer = {node.name for node in self.tree.body if isinstance(node, ast.ClassDef)}
        self.outer |= {n.name for node in self.tree.body if isinstance(node, ast.ImportFrom) for n in node.names}

    def plain(self, value):
        for node in ast.walk(value):
            if not isinstance(node, (ast.Constant, ast.Tuple, ast.List, ast.Dict, ast.Name, ast.UnaryOp, ast.USub,
                                     ast.Load)):
                self.tell("L3 value", node)

    def node(self, node):
        if isinstance(node, ast.stmt) and not isinstance(node, STATEMENTS):
            self.tell("L6", node)
        if isinstance(node, ast.expr) and not isinstance(node, EXPRESSIONS):
            self.tell("L7", node)
        check = getattr(self, "on_" + node.__class__.__name__.lower(), None)
        if check:
            check(node)

    def on_functiondef(self, node):
        if node.end_lineno - node.lineno + 1 > 40:
            self.tell("L10 function", node)
        if any(not isinstance(mark, ast.Name) or mark.id not in ("property", "staticmethod", "classmethod")
               for mark in node.decorator_list):
            self.tell("L4", node)
        if node.name.startswith("__") and node.name not in DOUBLE:
            self.tell("L5", node)
        self.named(node.name, node)
        for default in node.args.defaults:
            self.plain(default)
        if node.name == "__exit__":
            self.exit(node)

    def exit(self, function):
        """What leaves a with statement only assigns, appends and asks whether something is there."""
        for node in ast.walk(function):
            if isinstance(node, (ast.BinOp, ast.Raise, ast.Try, ast.For, ast.While, ast.Delete, ast.Subscript, ast.Assert)):
                self.tell("L6 With", node)
            if isinstance(node, ast.Call) and not (isinstance(node.func, ast.Attribute) and node.func.attr in ("append", "clear")):
                self.tell("L6 With", node)
            if isinstance(node, ast.Compare) and not isinstance(node.ops[0], (ast.Is, ast.IsNot)):
                self.tell("L6 With", node)
            if isinstance(node, ast.Name) and isinstance(node.ctx, ast.Load) and node.id in ("value", "trace"):
                self.tell("L6 With", node)

    def on_classdef(self, node):
        if node.decorator_list or node.keywords:
            self.tell("L5", node)
        names = [part.name for part in node.body if isinstance(part, ast.FunctionDef)]
        if len(set(names)) < len(names):
            self.tell("L18", node)
        if "__getitem__" in names and "__iter__" not in names:
            self.tell("L5 Operators", node)
        self.named(node.name, node)

    def on_arg(self, node):
        self.local(node.arg, node)

    def on_name(self, node):
        if isinstance(node.ctx, ast.Store):
            self.local(node.id, node)
        elif node.id == "_":
            self.tell("L12", node)
        elif node.id in dir(builtins) and node.id not in BUILTINS:
            self.tell("L8", node)

    def local(self, name, node):
        self.named(name, node)
        if name in self.outer:
            self.tell("L15", node)

    def named(self, name, node):
        barred = name in BARRED or re.match("_(wall|pe_|dcw_|enum_|cm_|twin_re_|lay_|law_|stub_|sre|WallAttr)", name)
        if barred or (name in dir(builtins) and name not in ("copy", "_")) or not name.isascii():
            self.tell("L12", node)

    def on_attribute(self, node):
        if node.attr in BARRED or (node.attr.startswith("__") and node.attr not in ("__init__", "__name__", "__class__")):
            self.tell("L17", node)
        if isinstance(node.ctx, ast.Store) and node.attr in (
                "items keys values pop update append clear extend insert remove reverse setdefault sort args encode "
                "decode hex fromhex format".split()):
            self.tell("L26", node)

    def on_call(self, node):
        for part in node.args:
            if isinstance(part, ast.Starred) and not isinstance(part.value, (ast.Name, ast.List, ast.Tuple)):
                if not (isinstance(part.value, ast.Attribute) and isinstance(part.value.value, ast.Name)):
                    self.tell("L7 star", node)
        if isinstance(node.func, ast.Attribute) and node.func.attr not in self.methods | {"__init__"}:
            self.tell("L25", node)
        if isinstance(node.func, ast.Name) and node.func.id in ("set",) and node.keywords:
            self.tell("L24", node)
        if isinstance(node.func, ast.Name) and node.func.id in BUILTINS:
            if any(word.arg not in ("key", "reverse", "default", "start", "strict") for word in node.keywords):
                self.tell("L22", node)

    def on_for(self, node):
        if isinstance(node.iter, (ast.Set, ast.SetComp)):
            self.tell("L24", node)
        over = ast.dump(node.iter)
        for part in ast.walk(node):
            if isinstance(part, ast.Call) and isinstance(part.func, ast.Attribute):
                if part.func.attr in ("append", "extend", "insert", "pop", "remove", "clear", "update"):
                    if ast.dump(part.func.value) == over:
                        self.tell("L23", part)

    def on_compare(self, node):
        for sign, side in zip(node.ops, node.comparators):
            if isinstance(sign, (ast.Is, ast.IsNot)) and not (
                    isinstance(side, ast.Constant) and side.value in (None, True, False)):
                self.tell("L20", node)

    def on_constant(self, node):
        if isinstance(node.value, (float, complex)):
            self.tell("L7", node)
        if isinstance(node.value, str) and ("%" in node.value or any(0xD800 <= ord(c) <= 0xDFFF for c in node.value)):
            self.tell("L27", node)

    def on_binop(self, node):
        if isinstance(node.op, (ast.Div, ast.MatMult)):
            self.tell("L7", node)
        if isinstance(node.op, ast.Pow) and not isinstance(node.right, ast.Constant):
            self.tell("L27", node)

    def on_raise(self, node):
        if node.exc is not None and not (isinstance(node.exc, ast.Call) and isinstance(node.exc.func, ast.Name)):
            self.tell("L19", node)

    def on_excepthandler(self, node):
        if node.type is None:
            self.tell("L19", node)
