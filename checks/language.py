"""Hold the files of a package against the rules of LANGUAGE.md that a script can see.

Usage: python3 checks/language.py FOLDER
Prints one line for each place that breaks a rule; the exit code is 1 if there is one.
"""

import ast
import builtins
import io
import pathlib
import re
import sys
import tokenize

from flow import faults_in

MOST_FUNCTION_LINES = 40
MOST_FILE_LINES = 399
MOST_LINE_SIGNS = 120
MOST_FILES = 100

LIBRARY = {
    "math": {"gcd", "lcm", "isqrt", "comb", "perm", "factorial"},
    "heapq": {"heappush", "heappop", "heapify", "heapreplace", "heappushpop"},
}
ERRORS_OF_PYTHON = set("""Exception ValueError TypeError KeyError IndexError LookupError ZeroDivisionError
    ArithmeticError OverflowError RuntimeError NotImplementedError AttributeError StopIteration""".split())
CAUGHT_FREELY = {"KeyError", "ZeroDivisionError"}
BUILTINS_USED = ERRORS_OF_PYTHON | set("""len range enumerate zip min max sum abs sorted reversed int str bool list tuple
    dict set isinstance ord repr any all divmod pow NotImplemented iter next property staticmethod classmethod
    super""".split())
KEYWORDS_OF_BUILTINS = {
    "sorted": {"key", "reverse"}, "min": {"key", "default"}, "max": {"key", "default"},
    "sum": {"start"}, "enumerate": {"start"}, "zip": {"strict"},
}
METHODS_OF_BUILTINS = set("""append clear copy count endswith extend find get index insert isalnum isalpha isdigit
    islower isspace isupper items join keys ljust lower lstrip partition pop remove replace reverse rfind rjust
    rpartition rsplit rstrip setdefault split splitlines startswith strip update upper values zfill bit_length
    title capitalize swapcase casefold center expandtabs removeprefix removesuffix rindex isascii isdecimal isnumeric
    istitle isidentifier isprintable""".split())
DOUBLE_UNDERSCORE_METHODS = set("""__init__ __eq__ __repr__ __str__ __len__ __enter__ __exit__ __call__ __iter__
    __lt__ __le__ __gt__ __ge__ __ne__ __bool__ __contains__""".split())
NAMES_NEVER = set("register mro elements open input law version_info with_traceback add_note".split())
NAMES_NOT_OF_VARIABLES = set("""attrgetter breakpoint builtins compile copyright credits delattr dir eval exec exit gc
    getattr globals hasattr help id importlib license locals methodcaller os quit setattr super type vars sys""".split())
WORDS_NEVER = set("""type typing typing_extensions enum Enum IntEnum StrEnum Flag IntFlag Generic Protocol ABC ABCMeta
    namedtuple NamedTuple TypedDict TYPE_CHECKING abstractmethod""".split())
WORDS_NEVER_INSIDE = ("dataclass", "overload", "contextmanager")
NAME_BEGINNINGS_NEVER = ("_wall", "_pe_", "_dcw_", "_enum_", "_cm_", "_twin_re_", "_lay_", "_law_", "_stub_", "_sre",
                         "_WallAttr")
NAMES_WITH_TAILS_NEVER = re.compile(r"(_cold|_tuplegetter|_outside|_record|_written_out|_member_names)[0-9_]*")
FILES_NEVER = set("test tests testing site conftest sitecustomize usercustomize".split())
# A generator expression may stand in a few places; this package takes lists, as L7 asks of most of them.
NEVER = {
    ast.Global: "L6", ast.AsyncFunctionDef: "L6", ast.AsyncFor: "L6", ast.AsyncWith: "L6", ast.Await: "L6",
    ast.Import: "L16", ast.GeneratorExp: "L7",
}
SIGNS_NEVER = (ast.Div, ast.MatMult)
PLAIN_NAME = re.compile(r"_?[A-Za-z][A-Za-z0-9_]*")


class Checker:
    """Gathers the faults of one folder."""

    def __init__(self, folder):
        self.folder = pathlib.Path(folder)
        self.package = self.folder.name
        self.faults = []
        self.trees = {}
        self.texts = {}

    def tell(self, rule, file, line, what):
        self.faults.append((file, line, rule, what))

    def run(self):
        self.read_files()
        self.methods = {node.name for tree in self.trees.values() for owner in ast.walk(tree)
                        if isinstance(owner, ast.ClassDef) for node in owner.body if isinstance(node, ast.FunctionDef)}
        for file, tree in self.trees.items():
            self.check_text(file, self.texts[file])
            self.check_words(file, self.texts[file])
            self.check_module_level(file, tree)
            self.check_imports(file, tree)
            self.check_names(file, tree)
            for node in ast.walk(tree):
                self.check_node(file, node)
            self.check_strings(file, tree)
            for line, rule, what in faults_in(tree, list(self.trees.values())):
                self.tell(rule, file, line, what)
        self.check_import_circles()
        return sorted(self.faults, key=lambda fault: (fault[0], fault[1], fault[2]))

    def read_files(self):
        paths = sorted(path for path in self.folder.iterdir() if path.name != "__pycache__")
        if not (self.folder / "__init__.py").is_file():
            self.tell("L14", self.package, 0, "no __init__.py")
        if len(paths) > MOST_FILES:
            self.tell("L14", self.package, 0, "more than 100 files")
        for path in paths:
            if path.is_dir() or not re.fullmatch(r"[a-z0-9_]+\.py", path.name):
                self.tell("L1", path.name, 0, "not a .py file with a plain lower-case name")
                continue
            stem = path.stem
            barred = FILES_NEVER | WORDS_NEVER | NAMES_NEVER | set(dir(builtins)) | set(LIBRARY) | {"itertools"}
            if stem != "__init__" and (stem in barred or stem.startswith(("law_", "test_"))):
                self.tell("L14", path.name, 0, "a file may not have this name")
            text = path.read_text(encoding="utf-8")
            try:
                tree = ast.parse(text)
            except SyntaxError as error:
                self.tell("L6", path.name, error.lineno or 0, "no Python")
                continue
            self.texts[path.name] = text
            self.trees[path.name] = tree

    def check_text(self, file, text):
        lines = text[:-1].split("\n") if text.endswith("\n") else text.split("\n")
        if len(lines) > MOST_FILE_LINES:
            self.tell("L10", file, len(lines), "more than 399 lines")
        for number, line in enumerate(lines, 1):
            if len(line) > MOST_LINE_SIGNS:
                self.tell("L10", file, number, "more than 120 characters")
            if any(not " " <= sign <= "~" for sign in line):
                self.tell("L14", file, number, "a character that is none from the space to the tilde")
            if "_wall" in line.replace("self._wall", "") or "_WallAttr" in line:
                self.tell("L12", file, number, "a word that stands nowhere")

    def check_words(self, file, text):
        """Words that may stand in comments and docstrings alone."""
        docstrings = {node.body[0].value.lineno for node in ast.walk(self.trees[file])
                      if isinstance(node, (ast.Module, ast.ClassDef, ast.FunctionDef))
                      and ast.get_docstring(node) is not None}
        for token in tokenize.generate_tokens(io.StringIO(text).readline):
            if token.type == tokenize.COMMENT or token.start[0] in docstrings and token.type == tokenize.STRING:
                continue
            words = set(re.findall(r"\w+", token.string))
            if token.type == tokenize.STRING:
                words.discard("type")
            if words & WORDS_NEVER or any(word in token.string for word in WORDS_NEVER_INSIDE):
                self.tell("L17", file, token.start[0], f"the word {token.string}")

    def check_module_level(self, file, tree):
        bound = {}
        past_imports = False
        for at, node in enumerate(tree.body):
            names = []
            if isinstance(node, ast.ImportFrom):
                names = [alias.name for alias in node.names]
                if past_imports:
                    self.tell("L2", file, node.lineno, "an import that is not at the top")
            elif isinstance(node, (ast.FunctionDef, ast.ClassDef)):
                names, past_imports = [node.name], True
            elif isinstance(node, ast.Assign) and self.is_plain_assignment(node):
                names, past_imports = [node.targets[0].id], True
            elif not (at == 0 and isinstance(node, ast.Expr) and isinstance(node.value, ast.Constant)):
                self.tell("L3", file, node.lineno, "a statement that does not stand at module level")
            for name in names:
                if name in bound:
                    self.tell("L15", file, node.lineno, f"{name} is bound twice")
                bound[name] = True

    def is_plain_assignment(self, node):
        allowed = (ast.Constant, ast.UnaryOp, ast.USub, ast.BinOp, ast.operator, ast.Tuple, ast.List, ast.Dict,
                   ast.Name, ast.Load)
        if len(node.targets) != 1 or not isinstance(node.targets[0], ast.Name):
            return False
        inner = [part for part in ast.walk(node.value) if part is not node.value]
        if any(isinstance(part, (ast.List, ast.Dict)) for part in inner):
            return False
        return all(isinstance(part, allowed) for part in ast.walk(node.value))

    def check_imports(self, file, tree):
        for node in ast.walk(tree):
            if not isinstance(node, ast.ImportFrom):
                continue
            if node.level or any(alias.asname or alias.name == "*" for alias in node.names):
                self.tell("L2", file, node.lineno, "an import with a dot, a star or an as")
                continue
            names = {alias.name for alias in node.names}
            if node.module in LIBRARY:
                if not names <= LIBRARY[node.module]:
                    self.tell("L2", file, node.lineno, "a name of the library that is not let")
                continue
            parts = (node.module or "").split(".")
            target = self.trees.get(f"{parts[-1]}.py")
            if len(parts) != 2 or parts[0] != self.package or target is None or parts[1] == "__main__":
                self.tell("L2", file, node.lineno, "an import that is not from a file of the package")
            elif not names <= defined_names(target):
                self.tell("L16", file, node.lineno, "an import from a file that does not define the name")

    def check_import_circles(self):
        needs = {file[:-3]: {node.module.split(".")[-1] for node in ast.walk(tree)
                             if isinstance(node, ast.ImportFrom) and (node.module or "").startswith(self.package + ".")}
                 for file, tree in self.trees.items()}
        done = set()
        while True:
            free = {name for name in needs if name not in done and not (needs[name] & set(needs)) - done}
            if not free:
                break
            done |= free
        for name in sorted(set(needs) - done):
            self.tell("L16", name + ".py", 0, "files that import from each other")

    def check_names(self, file, tree):
        """The names that functions bind: L12, L15, L17."""
        kept = {alias.name for node in tree.body if isinstance(node, ast.ImportFrom) for alias in node.names}
        kept |= {node.name for node in tree.body if isinstance(node, ast.ClassDef)}
        for node in ast.walk(tree):
            for name, is_variable in bound_names(node):
                line = getattr(node, "lineno", 0)
                if is_variable and name in kept:
                    self.tell("L15", file, line, f"{name} is a class or an import of this file")
                if is_variable and hasattr(builtins, name):
                    self.tell("L15", file, line, f"{name} is a builtin")
                if name in NAMES_NEVER or is_variable and name in NAMES_NOT_OF_VARIABLES:
                    self.tell("L17", file, line, f"the name {name}")
                if name.startswith("__"):
                    if is_variable or name not in DOUBLE_UNDERSCORE_METHODS:
                        self.tell("L8", file, line, f"the name {name}")
                elif name != "_" and not PLAIN_NAME.fullmatch(name):
                    self.tell("L12", file, line, f"the name {name}")
                if name.startswith(NAME_BEGINNINGS_NEVER) or NAMES_WITH_TAILS_NEVER.fullmatch(name):
                    self.tell("L12", file, line, f"the name {name}")
            if isinstance(node, ast.Name) and node.id == "_" and isinstance(node.ctx, ast.Load):
                self.tell("L12", file, node.lineno, "_ is read")
            if isinstance(node, ast.ClassDef):
                for method in node.body:
                    if isinstance(method, ast.FunctionDef) and method.name in NAMES_NOT_OF_VARIABLES:
                        self.tell("L17", file, method.lineno, f"the method {method.name}")
            if isinstance(node, ast.ClassDef) and node.name.startswith("_"):
                self.tell("L12", file, node.lineno, "the name of a class begins with _")

    def check_node(self, file, node):
        line = getattr(node, "lineno", 0)
        if type(node) in NEVER:
            self.tell(NEVER[type(node)], file, line, f"{type(node).__name__} is not let here")
        if isinstance(node, (ast.BinOp, ast.AugAssign)) and isinstance(node.op, SIGNS_NEVER):
            self.tell("L7", file, line, "a sign that is not let")
        if isinstance(node, ast.FunctionDef):
            self.check_function(file, node)
            self.check_generator(file, node)
            self.check_sets(file, node)
        if isinstance(node, ast.ClassDef):
            self.check_class(file, node)
        if isinstance(node, ast.Call):
            self.check_call(file, node)
        if isinstance(node, ast.Name) and isinstance(node.ctx, ast.Load) and hasattr(builtins, node.id) \
                and node.id not in BUILTINS_USED:
            self.tell("L8", file, line, f"the builtin {node.id}")
        if isinstance(node, ast.ExceptHandler):
            self.check_handler(file, node)
        if isinstance(node, ast.Raise) and node.exc is not None \
                and not (isinstance(node.exc, ast.Call) and isinstance(node.exc.func, ast.Name)):
            self.tell("L19", file, line, "raise creates its error on the spot")
        if isinstance(node, ast.Compare):
            for sign, other in zip(node.ops, node.comparators):
                if isinstance(sign, (ast.Is, ast.IsNot)) and not is_constant(other, (None, True, False)):
                    self.tell("L20", file, line, "is with something else than None, True and False")
        if isinstance(node, ast.BinOp) and isinstance(node.op, ast.Pow) \
                and not (isinstance(node.right, ast.Constant) and isinstance(node.right.value, int)
                         and 0 <= node.right.value <= 64):
            self.tell("L27", file, line, "an exponent that is no literal from 0 to 64")
        if isinstance(node, ast.Set) and len(node.elts) > 2:
            self.tell("L13", file, line, "a literal set of three or more")
        if isinstance(node, ast.stmt) and not isinstance(node, (ast.FunctionDef, ast.ClassDef)):
            lambdas = [inner.lineno for inner in ast.walk(node) if isinstance(inner, ast.Lambda)]
            if len(lambdas) > len(set(lambdas)):
                self.tell("L13", file, line, "two lambdas on one line")

    def check_function(self, file, node):
        first = min([node.lineno] + [decorator.lineno for decorator in node.decorator_list])
        if node.end_lineno - first + 1 > MOST_FUNCTION_LINES:
            self.tell("L10", file, node.lineno, f"{node.name} has more than 40 lines")
        for decorator in node.decorator_list:
            named = isinstance(decorator, ast.Name) and decorator.id in ("property", "staticmethod", "classmethod")
            if not named and not (isinstance(decorator, ast.Attribute) and decorator.attr == "setter"):
                self.tell("L4", file, node.lineno, "a decorator")

    def check_class(self, file, node):
        if node.decorator_list or node.keywords:
            self.tell("L5", file, node.lineno, "a class with a decorator or a keyword")
        names = [inner.name for inner in node.body if isinstance(inner, ast.FunctionDef)]
        setters = [inner.name for inner in node.body if isinstance(inner, ast.FunctionDef)
                   and any(isinstance(decorator, ast.Attribute) for decorator in inner.decorator_list)]
        if len(names) - len(setters) > len(set(names)):
            self.tell("L18", file, node.lineno, "a method that is defined twice")
        for inner in ast.walk(node):
            if isinstance(inner, ast.Attribute) and isinstance(inner.ctx, ast.Store) \
                    and isinstance(inner.value, ast.Name) and inner.value.id == "self" and inner.attr in names:
                self.tell("L18", file, inner.lineno, f"{inner.attr} is a method and an attribute")

    def check_generator(self, file, node):
        """L23: where a yield may stand, and how a generator may be called."""
        inner = own_nodes(node)
        yields = [one for one in inner if isinstance(one, (ast.Yield, ast.YieldFrom))]
        if not yields:
            return
        statements = [one.value for one in inner if isinstance(one, ast.Expr)]
        barred = [part for one in inner if isinstance(one, (ast.Try, ast.With)) for part in ast.walk(one)]
        for one in yields:
            if not any(one is other for other in statements) or any(one is other for other in barred):
                self.tell("L23", file, one.lineno, "a yield that may not stand here")
        if node.decorator_list or node.name.startswith("__") or node.name in METHODS_OF_BUILTINS \
                or any(isinstance(one, ast.Return) and one.value is not None for one in inner):
            self.tell("L23", file, node.lineno, "a generator that is not let")
        named = [one for tree in self.trees.values() for one in ast.walk(tree)
                 if isinstance(one, ast.FunctionDef) and one.name == node.name]
        if len(named) > 1:
            self.tell("L23", file, node.lineno, "another function has this generator's name")

    def check_sets(self, file, node):
        """L24: what is done with a set that a function stores."""
        inner = own_nodes(node)
        stored = {one.targets[0].id for one in inner if isinstance(one, ast.Assign) and is_set(one.value)
                  and isinstance(one.targets[0], ast.Name)}
        for one in inner:
            if isinstance(one, (ast.For, ast.comprehension)):
                if is_set(one.iter) or isinstance(one.iter, ast.Name) and one.iter.id in stored:
                    self.tell("L24", file, one.iter.lineno, "a set that is iterated")
            if isinstance(one, ast.Return) and one.value is not None:
                if is_set(one.value) or isinstance(one.value, ast.Name) and one.value.id in stored:
                    self.tell("L24", file, one.lineno, "a set that is returned")
            if isinstance(one, ast.Attribute) and isinstance(one.value, ast.Name) and one.value.id in stored \
                    and (one.attr not in ("add", "discard") or one.attr in self.methods):
                self.tell("L24", file, one.lineno, f"the method {one.attr} of a set")

    def check_call(self, file, node):
        keywords = {keyword.arg for keyword in node.keywords}
        if isinstance(node.func, ast.Name) and hasattr(builtins, node.func.id) and node.func.id not in ERRORS_OF_PYTHON:
            if not keywords <= KEYWORDS_OF_BUILTINS.get(node.func.id, set()):
                self.tell("L22", file, node.lineno, f"a keyword of {node.func.id}")
        if isinstance(node.func, ast.Attribute) and node.func.attr not in METHODS_OF_BUILTINS | self.methods:
            self.tell("L25", file, node.lineno, f"the method {node.func.attr}")

    def check_handler(self, file, node):
        caught = node.type.elts if isinstance(node.type, ast.Tuple) else [node.type]
        for error in caught:
            name = error.id if isinstance(error, ast.Name) else None
            if name is None or hasattr(builtins, name) and name not in CAUGHT_FREELY:
                self.tell("L19", file, node.lineno, "an except of what is no own error")

    def check_strings(self, file, tree):
        for node in ast.walk(tree):
            if not isinstance(node, ast.Constant):
                continue
            if isinstance(node.value, (float, complex, bytes)):
                self.tell("L7", file, node.lineno, "a number that is no integer, or bytes")
            if isinstance(node.value, int) and len(str(abs(node.value))) > 900:
                self.tell("L27", file, node.lineno, "a number of more than 900 digits")
            if not isinstance(node.value, str):
                continue
            text = node.value
            if "%" in text or text.endswith(("._", ".__")) or len(text) > 1 and text[:2] == "__" == text[-2:]:
                self.tell("L27", file, node.lineno, "a string that is not let")
            if any(sign not in "\n\t" and not " " <= sign <= "~" for sign in text):
                self.tell("L27", file, node.lineno, "an escape that is not let")


def own_nodes(function):
    """The nodes of a function without those of the functions nested in it."""
    found, waiting = [], list(function.body)
    while waiting:
        node = waiting.pop()
        found.append(node)
        if not isinstance(node, (ast.FunctionDef, ast.Lambda, ast.ClassDef)):
            waiting.extend(ast.iter_child_nodes(node))
    return found


def is_set(node):
    called = isinstance(node, ast.Call) and isinstance(node.func, ast.Name) and node.func.id in ("set", "frozenset")
    return called or isinstance(node, (ast.Set, ast.SetComp))


def is_constant(node, values):
    return isinstance(node, ast.Constant) and any(node.value is value for value in values)


def defined_names(tree):
    """The names that a file defines itself at module level."""
    names = {node.name for node in tree.body if isinstance(node, (ast.FunctionDef, ast.ClassDef))}
    return names | {target.id for node in tree.body if isinstance(node, ast.Assign)
                    for target in node.targets if isinstance(target, ast.Name)}


def bound_names(node):
    """The couples (name, whether it is a variable, function, class or parameter) that a node binds."""
    if isinstance(node, ast.ClassDef):
        yield node.name, False
        for inner in node.body:
            if isinstance(inner, ast.FunctionDef):
                yield inner.name, False
    if isinstance(node, (ast.Module, ast.FunctionDef)):
        for inner in node.body:
            if isinstance(inner, (ast.FunctionDef, ast.ClassDef)):
                yield inner.name, isinstance(inner, ast.FunctionDef)
    if isinstance(node, (ast.FunctionDef, ast.Lambda)):
        given = node.args
        for argument in given.posonlyargs + given.args + given.kwonlyargs + [given.vararg, given.kwarg]:
            if argument is not None:
                yield argument.arg, True
    if isinstance(node, ast.Name) and not isinstance(node.ctx, ast.Load):
        yield node.id, True
    if isinstance(node, ast.Attribute) and not isinstance(node.ctx, ast.Load):
        yield node.attr, False
    if isinstance(node, ast.ExceptHandler) and node.name:
        yield node.name, True
    if isinstance(node, ast.keyword) and node.arg:
        yield node.arg, False


def faults_of(folder):
    """The tuples (file, line, rule, what) of the places in a folder that break a rule."""
    return Checker(folder).run()


def main(arguments):
    faults = faults_of(arguments[0])
    for file, line, rule, what in faults:
        print(f"{file}:{line}: {rule}: {what}")
    print(f"language: {len(faults)} faults in {arguments[0]}")
    return 1 if faults else 0


if __name__ == "__main__":
    sys.exit(main(sys.argv[1:]))
