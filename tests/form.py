"""Finds code of the package that is outside ../shared/LANGUAGE.md.

It is narrower than the rules where that is simpler: what it finds may be allowed, and
then it is widened here. It does not see every rule."""

import ast
import builtins
import re
import warnings

LIBRARY = {"math": ("gcd", "lcm", "isqrt", "comb", "perm", "factorial"),
           "heapq": ("heappush", "heappop", "heapify", "heapreplace", "heappushpop"),
           "itertools": ("chain", "accumulate", "pairwise", "islice", "zip_longest")}
BUILTINS = """len range enumerate zip min max sum abs sorted reversed int str bool list tuple dict isinstance ord repr
any all divmod iter property classmethod staticmethod super NotImplemented Exception ValueError TypeError KeyError
IndexError LookupError ZeroDivisionError ArithmeticError OverflowError RuntimeError NotImplementedError""".split()
METHODS = """append clear copy count endswith extend find get index insert isalnum isalpha isdigit islower isspace
isupper items join keys ljust lower lstrip partition pop remove replace reverse rfind rjust rpartition rsplit rstrip
setdefault split splitlines startswith strip update upper values zfill bit_length""".split()
DUNDERS = """init eq repr str len iter bool contains neg add sub mul getitem""".split()
BARRED = """register mro elements open input law version_info with_traceback add_note attrgetter breakpoint builtins
compile copyright credits delattr dir eval exec exit gc getattr globals hasattr help id importlib license locals
methodcaller os quit setattr type vars sys typing typing_extensions enum Enum IntEnum StrEnum Flag IntFlag Generic
Protocol ABC ABCMeta namedtuple NamedTuple TypedDict TYPE_CHECKING abstractmethod map next chr set frozenset bytes
_cold _tuplegetter _outside _record _written_out _member_names""".split()
PREFIXES = "_wall _pe_ _dcw_ _enum_ _cm_ _twin_re_ _lay_ _law_ _stub_ _sre _WallAttr".split()
STATEMENTS = (ast.Assign, ast.AugAssign, ast.If, ast.While, ast.For, ast.Return, ast.Break, ast.Continue, ast.Pass,
              ast.Raise, ast.Assert, ast.Delete, ast.Expr, ast.FunctionDef, ast.ClassDef, ast.ImportFrom, ast.Try)
CONSUMERS = ("list", "tuple", "dict", "sorted", "sum", "min", "max", "any", "all", "enumerate", "zip")
VIEWS = ("zip", "enumerate", "reversed", "range")
FILE_NAMES = re.compile(r"(?!(law_|test|site|conftest|usercustomize|enum\.|type\.|typing\.|map\.))[a-z][a-z0-9_]*\.py")


class File:
    """A file of the package, parsed."""

    def __init__(self, module, text):
        self.module, self.text = module, text
        with warnings.catch_warnings():
            warnings.simplefilter("error")
            self.tree = ast.parse(text)
            compile(text, module, "exec")
        self.parents = {child: node for node in ast.walk(self.tree) for child in ast.iter_child_nodes(node)}
        self.imports = {}
        for node in self.tree.body:
            if isinstance(node, ast.ImportFrom):
                self.imports.update({alias.name: node.module for alias in node.names})
        self.defined = {node.name for node in self.tree.body if isinstance(node, (ast.FunctionDef, ast.ClassDef))}
        self.defined |= {target.id for node in self.tree.body if isinstance(node, ast.Assign)
                         for target in node.targets if isinstance(target, ast.Name)}
        self.classes = {node.name for node in self.tree.body if isinstance(node, ast.ClassDef)}

    def nodes(self, *kinds):
        return [node for node in ast.walk(self.tree) if isinstance(node, kinds)]


class Package:
    """All files of the package: a dict from the names of modules to texts."""

    def __init__(self, texts):
        self.files = {module: File(module, text) for module, text in texts.items()}
        self.generators = {node.name for file in self.files.values() for node in file.nodes(ast.FunctionDef)
                           if any(isinstance(part, (ast.Yield, ast.YieldFrom)) for part in ast.walk(node))}
        self.methods = {part.name for file in self.files.values() for node in file.nodes(ast.ClassDef)
                        for part in node.body if isinstance(part, ast.FunctionDef)}
        self.found = []

    def say(self, file, node, rule):
        self.found.append(f"{file.module}:{getattr(node, 'lineno', 0)} {rule}")

    def faults(self):
        """All that was found, one line each."""
        for file in self.files.values():
            for check in (self.texts, self.imports, self.top_level, self.statements, self.names, self.calls,
                          self.expressions, self.functions):
                check(file)
        self.circles()
        return self.found

    def texts(self, file):
        lines = file.text.split("\n")
        if len(lines) > 400 or not file.text.endswith("\n"):
            self.say(file, None, "L10 too many lines, or no end of the last one")
        for number, line in enumerate(lines, 1):
            if len(line) > 120 or not all(" " <= letter <= "~" for letter in line):
                self.found.append(f"{file.module}:{number} L10, L14 a long line or another character")

    def imports(self, file):
        for node in file.nodes(ast.Import):
            self.say(file, node, "L16 import without from")
        for node in file.nodes(ast.ImportFrom):
            source = self.files.get(node.module)
            for alias in node.names:
                known = alias.name in (source.defined if source else LIBRARY.get(node.module, ()))
                if node.level or alias.asname or not known or node not in file.tree.body:
                    self.say(file, node, f"L2, L16 import of {alias.name}")
                used = [part for part in file.nodes(ast.Name) if part.id == alias.name]
                if not used:
                    self.say(file, node, f"{alias.name} is not used")

    def circles(self):
        """L16: a file is not among those that it needs."""
        needs = {module: {node.module for node in file.nodes(ast.ImportFrom)} for module, file in self.files.items()}
        for module in needs:
            seen, ahead = set(), set(needs[module])
            while ahead:
                other = ahead.pop()
                if other not in seen:
                    seen.add(other)
                    ahead |= needs.get(other, set())
            if module in seen:
                self.found.append(f"{module} L16 imports itself through others")

    def top_level(self, file):
        bound = list(file.imports) + [node.name for node in file.tree.body
                                      if isinstance(node, (ast.FunctionDef, ast.ClassDef))]
        for place, node in enumerate(file.tree.body):
            if isinstance(node, ast.Assign):
                bound += [getattr(target, "id", "?") for target in node.targets]
                wrong = (ast.Call, ast.ListComp, ast.DictComp, ast.Attribute, ast.Subscript)
                if len(node.targets) > 1 or any(isinstance(part, wrong) for part in ast.walk(node.value)):
                    self.say(file, node, "L3 no plain value")
            elif isinstance(node, ast.Expr):
                if place or not isinstance(node.value, ast.Constant):
                    self.say(file, node, "L3 a statement at module level")
            elif not isinstance(node, (ast.ImportFrom, ast.FunctionDef, ast.ClassDef)):
                self.say(file, node, "L3 a statement at module level")
        for name in {name for name in bound if bound.count(name) > 1}:
            self.say(file, None, f"L15 {name} is bound twice")

    def statements(self, file):
        for node in file.nodes(ast.stmt):
            if not isinstance(node, STATEMENTS):
                self.say(file, node, f"L6 {type(node).__name__}")
            if isinstance(node, ast.Expr) and not isinstance(node.value, (ast.Call, ast.Yield, ast.YieldFrom)):
                above = getattr(file.parents[node], "body", [None])
                if not isinstance(node.value, ast.Constant) or above[0] is not node:
                    self.say(file, node, "L6 a value on its own")
            if isinstance(node, ast.Raise) and not (isinstance(node.exc, ast.Call) and node.cause is None):
                self.say(file, node, "L19 raise")
            if isinstance(node, ast.AugAssign) and not isinstance(node.value, ast.Constant):
                self.say(file, node, "L5 operators may not call this")
            if isinstance(node, ast.For) and isinstance(node.iter, ast.Name):
                self.loop(file, node)
            if isinstance(node, ast.Try):
                self.handlers(file, node)

    def handlers(self, file, node):
        """L19, narrower: only own errors are caught. L6: `finally` assigns names to attributes, nothing else."""
        for handler in node.handlers:
            if file.imports.get(getattr(handler.type, "id", "")) != "risewords.errors" or handler.name:
                self.say(file, handler, "L19 except")
        for part in node.finalbody:
            plain = isinstance(part, ast.Assign) and isinstance(part.value, ast.Name) and len(part.targets) == 1
            if not plain or not isinstance(part.targets[0], ast.Attribute):
                self.say(file, part, "L6 finally")

    def loop(self, file, node):
        """L23: what is iterated over is not changed in the loop."""
        for part in ast.walk(ast.Module(body=node.body, type_ignores=[])):
            stored = isinstance(part, ast.Subscript) and not isinstance(part.ctx, ast.Load)
            called = isinstance(part, ast.Attribute) and part.attr in ("append", "pop", "extend", "update", "insert")
            if (stored or called) and isinstance(part.value, ast.Name) and part.value.id == node.iter.id:
                self.say(file, part, "L23 changed in its loop")

    def names(self, file):
        bound = [(node, node.id) for node in file.nodes(ast.Name) if isinstance(node.ctx, ast.Store)]
        bound += [(node, node.arg) for node in file.nodes(ast.arg)]
        for node, name in bound:
            if name in file.imports or name in file.classes:
                self.say(file, node, f"L15 {name} names an import or a class")
        bound += [(node, node.name) for node in file.nodes(ast.FunctionDef, ast.ClassDef)]
        for node, name in bound:
            method = isinstance(file.parents.get(node), ast.ClassDef)
            if hasattr(builtins, name) and not method:
                self.say(file, node, f"L15 {name} is a builtin")
            if name in BARRED or any(name.startswith(prefix) for prefix in PREFIXES):
                self.say(file, node, f"L12, L17 {name}")
            if name.startswith("__") and not (method and name[2:-2] in DUNDERS):
                self.say(file, node, f"L5, L8 {name}")
        known = {name for _, name in bound} | set(file.imports) | set(BUILTINS) | file.defined
        for node in file.nodes(ast.Name):
            if node.id not in known or (node.id in BARRED and node.id != "type"):
                self.say(file, node, f"L8 {node.id}")

    def calls(self, file):
        for node in file.nodes(ast.Call):
            called = node.func
            if isinstance(called, ast.Attribute) and called.attr not in METHODS and called.attr not in self.methods:
                if not (called.attr == "__init__"):
                    self.say(file, node, f"L25 .{called.attr}()")
            if isinstance(called, ast.Name):
                if called.id in self.generators:
                    plain = all(isinstance(part, (ast.Name, ast.Attribute, ast.Constant)) for part in node.args)
                    if not plain or not self.at_once(file, node):
                        self.say(file, node, f"L23 {called.id} is not iterated at once, or takes more than names")
                if (called.id in VIEWS or file.imports.get(called.id) == "itertools") and not self.at_once(file, node):
                    self.say(file, node, f"L23 {called.id}(..)")
            if isinstance(called, ast.Attribute) and called.attr in ("items", "keys", "values"):
                if not self.at_once(file, node):
                    self.say(file, node, f"L23 .{called.attr}()")
        for node in file.nodes(ast.Name):
            call = file.parents[node]
            plain = isinstance(call, ast.Call) and call.func is node
            if not plain and (node.id in self.generators or file.imports.get(node.id) in LIBRARY):
                self.say(file, node, f"L2, L23 {node.id} as a value")

    def at_once(self, file, node):
        """Whether a loop, a comprehension, `yield from` or a builtin goes over the call."""
        above = file.parents[node]
        if isinstance(above, (ast.For, ast.comprehension, ast.YieldFrom)):
            return above.iter is node if hasattr(above, "iter") else True
        named = isinstance(above, ast.Call) and getattr(above.func, "id", None)
        ranged = named in ("len", "reversed", "iter") and getattr(node.func, "id", "range") == "range"
        return bool(named) and node in above.args and (named in CONSUMERS or ranged)

    def expressions(self, file):
        for node in file.nodes(ast.expr, ast.operator, ast.cmpop):
            if isinstance(node, (ast.Set, ast.SetComp, ast.GeneratorExp, ast.Await, ast.NamedExpr, ast.Div,
                                 ast.MatMult)):
                self.say(file, file.parents[node], f"L7, L24 {type(node).__name__}")
            if isinstance(node, ast.Constant):
                self.constant(file, node)
            if isinstance(node, ast.BinOp) and isinstance(node.op, ast.Pow) and not self.is_short(node.right):
                self.say(file, node, "L27 exponent")
            if isinstance(node, ast.Compare) and any(isinstance(part, (ast.Is, ast.IsNot)) for part in node.ops):
                if not all(isinstance(part, ast.Constant) for part in node.comparators):
                    self.say(file, node, "L20 is")
        if re.search(r"_wall|_WallAttr|dataclass|overload|contextmanager", file.text):
            self.say(file, None, "L12, L17 a word that is barred")

    def is_short(self, node):
        """L27: a literal exponent, or the remainder of a plain integer by a literal."""
        if isinstance(node, ast.Constant):
            return 0 <= node.value <= 64
        if not (isinstance(node, ast.BinOp) and isinstance(node.op, ast.Mod) and isinstance(node.left, ast.Call)):
            return False
        plain = getattr(node.left.func, "id", "") in ("int", "len")
        return plain and isinstance(node.right, ast.Constant) and 1 <= node.right.value <= 65

    def constant(self, file, node):
        value = node.value
        if isinstance(value, (float, complex, bytes)):
            self.say(file, node, "L7 a value of this kind")
        if isinstance(value, str):
            words = re.findall(r"\w+", value)
            quiet = isinstance(file.parents[node], ast.Expr)
            if "%" in value or (not quiet and any(word in BARRED and word != "type" for word in words)):
                self.say(file, node, "L17, L27 a string")

    def functions(self, file):
        for node in file.nodes(ast.FunctionDef):
            first = min([node.lineno] + [part.lineno for part in node.decorator_list])
            if node.end_lineno - first + 1 > 40:
                self.say(file, node, "L10 a long function")
            for part in node.decorator_list:
                if getattr(part, "id", "") not in ("property", "classmethod", "staticmethod"):
                    self.say(file, node, "L4 a decorator")
            if not ast.get_docstring(node) and not node.name.startswith("__"):
                self.say(file, node, "a function without a docstring")
        for node in file.nodes(ast.Lambda):
            if isinstance(file.parents[node], ast.Assign):
                self.say(file, node, "a lambda that is kept: write a function")
        for node in file.nodes(ast.ClassDef):
            if node.decorator_list or node not in file.tree.body:
                self.say(file, node, "L5, L15 a class")
