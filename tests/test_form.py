"""The form of the package: those rules of LANGUAGE.md that can be seen file by file."""

import ast
import pathlib
import re
import tokenize
import unittest

ROOT = pathlib.Path(__file__).resolve().parent.parent
PACKAGE = ROOT / "nevermiss"
FILES = sorted(PACKAGE.rglob("*.py"))

BUILTINS = set("""len range enumerate zip min max sum abs sorted reversed int str bool bytes list tuple dict set
    isinstance repr any all divmod iter next Exception ValueError TypeError KeyError IndexError LookupError
    ZeroDivisionError ArithmeticError OverflowError RuntimeError NotImplementedError AttributeError StopIteration
    NotImplemented ord pow classmethod staticmethod property super map""".split())
ERRORS = set("""Exception ValueError TypeError KeyError IndexError LookupError ZeroDivisionError ArithmeticError
    OverflowError RuntimeError NotImplementedError""".split())
METHODS = set("""append clear copy count endswith extend find get index insert isalnum isalpha isdigit islower isspace
    isupper items join keys ljust lower lstrip partition pop remove replace reverse rfind rjust rpartition rsplit rstrip
    setdefault split splitlines startswith strip update upper values zfill bit_length add discard title capitalize
    swapcase casefold center expandtabs removeprefix removesuffix rindex isascii isdecimal isnumeric istitle
    isidentifier isprintable""".split())
BARRED_ATTRIBUTES = set("""items keys values pop update append clear extend insert remove reverse setdefault sort args
    encode decode hex fromhex format format_map mro as_integer_ratio bit_count conjugate from_bytes is_integer
    to_bytes""".split())
BARRED_NAMES = set("""register mro elements open input law version_info with_traceback add_note attrgetter breakpoint
    builtins compile copyright credits delattr dir eval exec exit gc getattr globals hasattr help id importlib license
    locals methodcaller os quit setattr type vars sys chr hash format filter print round object float""".split())
BARRED_WORDS = re.compile(r"\b(type|typing|typing_extensions|enum|Enum|IntEnum|StrEnum|Flag|IntFlag|Generic|Protocol|ABC|"
                          r"ABCMeta|namedtuple|NamedTuple|TypedDict|TYPE_CHECKING|abstractmethod)\b|dataclass|overload|"
                          r"contextmanager|\(type\)|Meta|metaclass=|_wall\b|_WallAttr")
DUNDERS = set("""__init__ __eq__ __repr__ __str__ __len__ __enter__ __exit__ __call__ __iter__ __lt__ __le__ __gt__ __ge__
    __ne__ __contains__ __getitem__ __setitem__ __bool__""".split())
LIBRARY = {"heapq": {"heappush", "heappop", "heapify", "heapreplace", "heappushpop"}}
STATEMENTS = (ast.Assign, ast.AugAssign, ast.If, ast.While, ast.For, ast.Return, ast.Break, ast.Continue, ast.Pass,
              ast.Raise, ast.Assert, ast.Delete, ast.Try, ast.Expr, ast.FunctionDef, ast.ClassDef, ast.ImportFrom,
              ast.Nonlocal)
VALUES = (int, str, bool, type(None))
PLAIN = (ast.Constant, ast.BinOp, ast.operator, ast.UnaryOp, ast.USub, ast.Tuple, ast.List, ast.Dict, ast.Load)


def bound_names(tree):
    """Names that a file binds anywhere."""
    for node in ast.walk(tree):
        if isinstance(node, (ast.FunctionDef, ast.ClassDef)):
            yield node, node.name
        elif isinstance(node, ast.arg):
            yield node, node.arg
        elif isinstance(node, ast.Name) and isinstance(node.ctx, ast.Store):
            yield node, node.id
        elif isinstance(node, ast.alias):
            yield node, node.asname or node.name


class Form(unittest.TestCase):
    def each(self):
        for path in FILES:
            text = path.read_text(encoding="utf-8")
            yield path, text, ast.parse(text)

    def right(self, is_right, path, node, rule):
        self.assertTrue(is_right, msg="%s:%s: %s" % (path.name, getattr(node, "lineno", node), rule))

    def test_the_folder(self):
        self.assertIn(PACKAGE / "__init__.py", FILES)
        for path in PACKAGE.rglob("*"):
            if "__pycache__" not in path.parts:
                self.right(path.suffix == ".py" and re.fullmatch("[a-z_][a-z0-9_]*", path.stem), path, 0, "L1, L14")

    def test_lines_and_characters(self):
        for path, text, tree in self.each():
            lines = text.split("\n")
            self.right(len(lines) <= 400, path, len(lines), "L10: a file has at most 399 lines")
            self.right(all(" " <= letter <= "~" or letter == "\n" for letter in text), path, 0, "L14: characters")
            for number, line in enumerate(lines, start=1):
                self.right(len(line) <= 120, path, number, "L10: a line has at most 120 characters")
            for node in ast.walk(tree):
                if isinstance(node, ast.FunctionDef):
                    self.right(node.end_lineno - node.lineno < 40, path, node, "L10: 40 lines")

    def test_words(self):
        for path, text, tree in self.each():
            for match in BARRED_WORDS.finditer(text):
                self.right(False, path, text[:match.start()].count("\n") + 1, "L17, L12: " + match.group())
            with tokenize.open(path) as lines:
                for token in tokenize.generate_tokens(lines.readline):
                    if token.type == tokenize.STRING:
                        self.right("%" not in token.string, path, token.start[0], "L27: the character in a string")
                        escapes = re.findall(r"\\(.)", token.string)
                        self.right(set(escapes) <= set("nt\\\"'"), path, token.start[0], "L27: escapes")

    def test_imports(self):
        needs = {}
        for path, text, tree in self.each():
            needs[path.stem] = []
            top = True
            for at, node in enumerate(tree.body):
                if isinstance(node, ast.ImportFrom) and node.module in LIBRARY:
                    names = {alias.name for alias in node.names if alias.asname is None}
                    self.right(top and len(names) == len(node.names), path, node, "L2")
                    self.right(names <= LIBRARY[node.module], path, node, "L2: the library")
                elif isinstance(node, ast.ImportFrom):
                    self.right(top and node.level == 0 and node.module.startswith("nevermiss."), path, node, "L2")
                    needs[path.stem].append(node.module.split(".", 1)[1])
                    target = PACKAGE / (node.module.split(".", 1)[1] + ".py")
                    own = [part.name for part in ast.parse(target.read_text()).body
                           if isinstance(part, (ast.FunctionDef, ast.ClassDef))]
                    own += [part.targets[0].id for part in ast.parse(target.read_text()).body
                            if isinstance(part, ast.Assign)]
                    for alias in node.names:
                        self.right(alias.name in own, path, node, "L16: the very file that defines " + alias.name)
                elif at:
                    top = False
            used = {node.id for node in ast.walk(tree) if isinstance(node, ast.Name)}
            for node in tree.body:
                if isinstance(node, ast.ImportFrom):
                    self.right({alias.name for alias in node.names} <= used, path, node, "an import without a use")
        while needs:
            free = [stem for stem in needs if not [other for other in needs[stem] if other in needs]]
            self.assertTrue(free, msg="L16: files import from each other: %s" % needs)
            for stem in free:
                del needs[stem]

    def test_module_level(self):
        for path, text, tree in self.each():
            names = []
            for node in tree.body:
                if isinstance(node, ast.Expr):
                    self.right(isinstance(node.value, ast.Constant), path, node, "L3")
                elif isinstance(node, ast.Assign):
                    self.right(len(node.targets) == 1 and isinstance(node.targets[0], ast.Name), path, node, "L3")
                    for part in ast.walk(node.value):
                        self.right(isinstance(part, PLAIN), path, node, "L3: a plain value")
                    names.append(node.targets[0].id)
                else:
                    self.right(isinstance(node, (ast.ImportFrom, ast.FunctionDef, ast.ClassDef)), path, node, "L3")
                    names += [alias.name for alias in node.names] if isinstance(node, ast.ImportFrom) else [node.name]
            self.assertEqual(len(names), len(set(names)), msg="L15: %s binds a name twice" % path.name)
            top = {alias.name for node in tree.body if isinstance(node, ast.ImportFrom) for alias in node.names}
            top = top | {node.name for node in tree.body if isinstance(node, ast.ClassDef)}
            for function in ast.walk(tree):
                if isinstance(function, ast.FunctionDef):
                    for node, name in bound_names(ast.Module(body=function.body, type_ignores=[])):
                        self.right(name not in top, path, node, "L15: %s is a class or an import" % name)
                    for node in ast.walk(function.args):
                        if isinstance(node, ast.arg):
                            self.right(node.arg not in top, path, node, "L15: %s" % node.arg)

    def test_names(self):
        for path, text, tree in self.each():
            for node, name in bound_names(tree):
                self.right(name not in BARRED_NAMES and name not in BUILTINS, path, node, "L8, L15, L17: " + name)
                self.right(re.fullmatch("_|_?[A-Za-z][A-Za-z0-9_]*", name) or name in DUNDERS, path, node, "L12: " + name)
            bound = {name for node, name in bound_names(tree)} | {"self", "cls"}
            for node in ast.walk(tree):
                if isinstance(node, ast.Name) and isinstance(node.ctx, ast.Load):
                    self.right(node.id != "_" and node.id in bound | BUILTINS, path, node, "L8: " + node.id)

    def test_statements(self):
        for path, text, tree in self.each():
            for node in ast.walk(tree):
                if isinstance(node, ast.stmt):
                    self.right(isinstance(node, STATEMENTS), path, node, "L6")
                self.right(not isinstance(node, (ast.Div, ast.MatMult, ast.Yield, ast.GeneratorExp, ast.NamedExpr)),
                           path, node, "L7")
                if isinstance(node, ast.Constant):
                    self.right(isinstance(node.value, VALUES), path, node, "L7: values")
                if isinstance(node, ast.Compare) and isinstance(node.ops[0], (ast.Is, ast.IsNot)):
                    known = isinstance(node.comparators[0], ast.Constant)
                    self.right(known and node.comparators[0].value in (None, True, False), path, node, "L20")
                if isinstance(node, ast.ExceptHandler):
                    named = node.type.elts if isinstance(node.type, ast.Tuple) else [node.type]
                    for name in named:
                        self.right(isinstance(name, ast.Name) and name.id not in ERRORS - {"KeyError"}, path, node, "L19")
                if isinstance(node, ast.Raise):
                    self.right(node.exc is None or isinstance(node.exc, ast.Call), path, node, "L19")
                if isinstance(node, ast.BinOp) and isinstance(node.op, ast.Pow):
                    self.right(isinstance(node.right, ast.Constant), path, node, "L27: an exponent")

    def test_finally(self):
        for path, text, tree in self.each():
            for node in ast.walk(tree):
                if isinstance(node, ast.Try):
                    for part in [inner for kept in node.finalbody for inner in ast.walk(kept)]:
                        allowed = (ast.If, ast.Assign, ast.Tuple, ast.Name, ast.Attribute, ast.Compare, ast.Is,
                                   ast.Constant, ast.Load, ast.Store)
                        self.right(isinstance(part, allowed), path, part, "L6: finally")

    def test_operators(self):
        # Operators and what is told by len, == and the like change nothing.
        for path, text, tree in self.each():
            for node in ast.walk(tree):
                if isinstance(node, ast.FunctionDef) and node.name in DUNDERS - {"__init__"}:
                    for part in ast.walk(node):
                        stores = isinstance(part, (ast.Attribute, ast.Subscript)) and isinstance(part.ctx, ast.Store)
                        changes = isinstance(part, ast.Call) and isinstance(part.func, ast.Attribute) and (
                            part.func.attr in ("append", "pop", "clear", "extend", "insert", "remove", "update"))
                        self.right(not stores and not changes, path, part, "L5, L28: operators")

    def test_calls_and_attributes(self):
        trees = list(self.each())
        own = {node.name for path, text, tree in trees for node in ast.walk(tree) if isinstance(node, ast.FunctionDef)}
        stored = {node.attr for path, text, tree in trees for node in ast.walk(tree)
                  if isinstance(node, ast.Attribute) and isinstance(node.ctx, ast.Store)}
        for path, text, tree in trees:
            for node in ast.walk(tree):
                if isinstance(node, ast.Call) and isinstance(node.func, ast.Attribute):
                    self.right(node.func.attr in METHODS | own | {"__init__"}, path, node, "L25: " + node.func.attr)
                    self.right(node.func.attr != "sort", path, node, "L25")
                if isinstance(node, ast.Attribute):
                    self.right(node.attr in METHODS | own | stored | {"__init__"}, path, node, "L18: " + node.attr)
                    if isinstance(node.ctx, ast.Store):
                        self.right(node.attr not in BARRED_ATTRIBUTES | BARRED_NAMES, path, node, "L26: " + node.attr)

    def test_stars_and_lambdas(self):
        for path, text, tree in self.each():
            lines = [node.lineno for node in ast.walk(tree) if isinstance(node, ast.Lambda)]
            self.assertEqual(len(lines), len(set(lines)), msg="L13: two lambdas on a line of %s" % path.name)
            for node in ast.walk(tree):
                if isinstance(node, ast.Call):
                    for part in node.args:
                        plain = isinstance(part, ast.Starred) and isinstance(part.value, (ast.Name, ast.Attribute))
                        self.right(not isinstance(part, ast.Starred) or plain, path, node, "L7: behind a star")

    def test_names_of_methods_and_attributes(self):
        methods, stored = {}, {}
        for path, text, tree in self.each():
            for node in ast.walk(tree):
                if isinstance(node, ast.ClassDef):
                    methods.update({part.name: part for part in node.body if isinstance(part, ast.FunctionDef)})
                if isinstance(node, ast.Attribute) and isinstance(node.ctx, ast.Store):
                    stored[node.attr] = node
        self.assertEqual(set(methods) & set(stored), set(), msg="L18: a method and an attribute")

    def test_sets(self):
        for path, text, tree in self.each():
            allowed = set()
            for node in ast.walk(tree):
                if isinstance(node, ast.Call) and isinstance(node.func, ast.Name) and node.func.id in ("sorted", "len"):
                    allowed.update(id(part) for part in ast.walk(node.args[0]))
                if isinstance(node, ast.Compare):
                    allowed.update(id(part) for part in node.comparators + [node.left])
                if isinstance(node, ast.Assign) and isinstance(node.targets[0], ast.Name):
                    allowed.add(id(node.value))
            for node in ast.walk(tree):
                made = isinstance(node, ast.Call) and isinstance(node.func, ast.Name) and node.func.id == "set"
                if made or isinstance(node, (ast.Set, ast.SetComp)):
                    self.right(id(node) in allowed, path, node, "L24")

    def test_classes(self):
        for path, text, tree in self.each():
            classes = [node for node in ast.walk(tree) if isinstance(node, ast.ClassDef)]
            self.assertEqual(classes, [node for node in tree.body if isinstance(node, ast.ClassDef)], msg="L15")
            for node in classes:
                self.right(not node.decorator_list and not node.keywords, path, node, "L5")
                methods = [part for part in node.body if isinstance(part, ast.FunctionDef)]
                self.assertEqual(len({part.name for part in methods}), len(methods), msg="L18")
                stored = {part.attr for part in ast.walk(node)
                          if isinstance(part, ast.Attribute) and isinstance(part.ctx, ast.Store)}
                for part in methods:
                    self.right(part.name not in stored, path, part, "L18: a method and an attribute")
                    plain = [name.id for name in part.decorator_list]
                    self.right(plain in ([], ["classmethod"], ["staticmethod"], ["property"]), path, part,
                               "L5: decorators")
                    if plain == ["property"]:
                        assigns = [kind for kind in ast.walk(part) if isinstance(kind, (ast.Assign, ast.AugAssign))]
                        self.right(not assigns and len(part.args.args) == 1, path, part, "L5: properties")
            for node in tree.body:
                if isinstance(node, ast.FunctionDef):
                    self.right(not node.decorator_list, path, node, "L4")
            for node in ast.walk(tree):
                if isinstance(node, ast.FunctionDef) and node.name.startswith("__"):
                    inside = [part for known in classes for part in known.body]
                    self.right(node in inside and node.name in DUNDERS, path, node, "L28")

    def test_interface_is_where_it_is_listed(self):
        listed = {
            "errors": ["MissError", "BadText", "BadMachine", "BadSign", "BadEdit", "BadColumn", "BadBound", "BadKeys",
                       "BadName", "TooMany", "Unlike", "Misses", "NothingLeft"],
            "machines": ["Machine", "Machine.keys_of", "Machine.after", "Machine.far_keys", "Machine.__eq__",
                         "Machine.__str__", "Machine.read"],
            "parts": ["heads", "tails", "sized", "counted", "pieces", "lightest", "folded", "beside", "holding",
                      "renamed"],
            "rules": ["Rule", "Rule.shared", "Rule.meets", "Rule.narrowed", "Rule.turned", "Rule.__eq__"],
            "edits": ["Edits", "Edits.plain", "Edits.turned", "Edits.texts", "Edits.weighed", "Edits.__eq__"],
            "sure": ["Bad", "Sure", "sure", "is_bad", "is_sure", "Lowest", "lowest", "is_lowest"],
            "longest": ["Longest", "Endless", "longest", "is_longest"],
            "choice": ["Meetings", "meetings", "least_count", "is_meetings", "Covers", "covers", "is_covers"],
            "same": ["least", "parted", "silent", "giving"],
            "tables": ["weight_of", "columns_of", "bar_of", "is_bar", "Table", "Table.__getitem__",
                       "Table.__contains__", "Table.__len__", "Table.__iter__", "Table.__eq__", "Table.near",
                       "Table.near_text", "Table.found", "Table.shelf", "Table.missed", "Table.idle"],
            "desk": ["Desk", "Desk.ask", "Desk.tried", "Desk.put", "Desk.take", "Desk.exchange", "Desk.reprice",
                     "Desk.widen", "Desk.undo", "Desk.attempt", "Desk.__len__"],
            "onetext": ["Miss", "miss_of", "fence_of", "is_fence", "near_sets", "lacks", "risks", "mended"],
        }
        for path, text, tree in self.each():
            own = set()
            for node in tree.body:
                if isinstance(node, (ast.FunctionDef, ast.ClassDef)):
                    own.add(node.name)
                if isinstance(node, ast.ClassDef):
                    own.update(node.name + "." + part.name for part in node.body if isinstance(part, ast.FunctionDef))
            self.assertLessEqual(set(listed.get(path.stem, [])), own)
        self.assertLessEqual(set(listed), {path.stem for path in FILES})


if __name__ == "__main__":
    unittest.main()
