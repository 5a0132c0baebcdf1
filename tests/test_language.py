"""The package keeps to ../shared/LANGUAGE.md: what can be told from the code is told here.

The rules are taken more narrowly than they are written, as the package needs no more.
"""

import ast
import os
import re
import unittest
import warnings

import mapwebs

FOLDER = os.path.dirname(mapwebs.__file__)

BUILTINS = {
    "len", "range", "enumerate", "zip", "min", "max", "sum", "abs", "sorted", "reversed", "int", "str",
    "bool", "list", "tuple", "dict", "isinstance", "ord", "repr", "any", "all", "divmod", "ValueError",
    "True", "False", "None",
}
METHODS = {
    "append", "clear", "copy", "count", "endswith", "extend", "find", "get", "index", "insert", "isdigit",
    "items", "join", "keys", "pop", "remove", "replace", "reverse", "setdefault", "split", "splitlines",
    "startswith", "strip", "update", "values",
}
NODES = {
    "Module", "Expr", "Constant", "ImportFrom", "alias", "FunctionDef", "arguments", "arg", "ClassDef",
    "Assign", "AugAssign", "If", "While", "For", "Return", "Break", "Continue", "Pass", "Raise", "Call",
    "Name", "Load", "Store", "Del", "Delete", "Attribute", "Subscript", "Slice", "Tuple", "List", "Dict",
    "ListComp", "DictComp", "comprehension", "BinOp", "UnaryOp", "BoolOp", "Compare", "IfExp",
    "Add", "Sub", "Mult", "FloorDiv", "Mod", "USub", "And", "Or", "Not", "Eq", "NotEq", "Lt", "LtE", "Gt",
    "GtE", "Is", "IsNot", "In", "NotIn", "Starred", "keyword", "Lambda",
}
BARRED = {
    "register", "mro", "elements", "open", "input", "law", "version_info", "with_traceback", "add_note",
    "attrgetter", "breakpoint", "builtins", "compile", "copyright", "credits", "delattr", "dir", "eval",
    "exec", "exit", "gc", "getattr", "globals", "hasattr", "help", "id", "importlib", "license", "locals",
    "methodcaller", "os", "quit", "setattr", "super", "type", "vars", "sys",
}
WORDS = re.compile(
    r"\b(type|typing|typing_extensions|enum|Enum|IntEnum|StrEnum|Flag|IntFlag|Generic|Protocol|ABC|ABCMeta|"
    r"namedtuple|NamedTuple|TypedDict|TYPE_CHECKING|abstractmethod)\b|dataclass|overload|contextmanager")
FIRSTS = ("_wall", "_pe_", "_dcw_", "_enum_", "_cm_", "_twin_re_", "_lay_", "_law_", "_stub_", "_sre")
HELD_BY_VALUES = set().union(*[dir(kind) for kind in (str, int, list, dict, set, bytes, tuple)])
EVERY_BUILTIN = set(dir(__import__("builtins")))

INTERFACE = {
    "tables": "Table led times plus scaled turned_about plain nought corner reduced rank kernel image solved "
              "undone",
    "polynomials": "product factors least_polynomial at_table companion",
    "webs": "Web parts turned_web line",
    "pictures": "Picture beside based",
    "leadings": "is_leading leadings many_leadings behind back",
    "seals": "is_seal is_piece seal",
    "partings": "parting is_parting alike matched",
    "forms": "form euler kinds rows endless",
    "turns": "turn lost turned_leading",
    "finite": "piece_of leadings_told counts",
    "families": "family",
    "lines": "bar_of bars bars_told reach",
    "towers": "Tower tower_bars tower_picture exchanged",
    "barlists": "is_pairing is_ban pairing ban nearest",
    "nearness": "is_near near",
    "loops": "loop_piece loop_kinds",
    "pencils": "pencil_of pencil_kinds",
    "strangers": "refuted is_refuted picture_asked",
    "texts": "picture_text read_picture",
    "desk": "Desk",
}


def sources():
    found = {}
    for name in sorted(os.listdir(FOLDER)):
        if name != "__pycache__":
            with open(os.path.join(FOLDER, name), encoding="utf-8", newline="") as file:
                found[name] = file.read()
    return found


def docstrings(tree):
    found = set()
    for node in ast.walk(tree):
        if isinstance(node, (ast.Module, ast.ClassDef, ast.FunctionDef)) and ast.get_docstring(node) is not None:
            found.add(id(node.body[0].value))
    return found


class Language(unittest.TestCase):

    def setUp(self):
        self.texts = sources()
        self.trees = {name: ast.parse(text) for name, text in self.texts.items()}

    def each(self):
        for name, tree in self.trees.items():
            for node in ast.walk(tree):
                yield "%s:%s" % (name, getattr(node, "lineno", 0)), node

    def functions(self):
        return [(place, node) for place, node in self.each() if isinstance(node, ast.FunctionDef)]

    def test_files(self):
        self.assertIn("__init__.py", self.texts)
        for name, text in self.texts.items():
            self.assertRegex(name, r"\A(__init__|[a-z][a-z0-9_]*)\.py\Z")
            self.assertRegex(text, r"\A[ -~\n]*\Z", name)
            self.assertLess(text.count("\n"), 400, name)
            self.assertLessEqual(max(len(line) for line in text.split("\n")), 120, name)
            self.assertTrue(text.endswith("\n") and not text.endswith("\n\n"), name)
            self.assertNotIn(name[:-3], BARRED | EVERY_BUILTIN)
            self.assertNotIn("_WallAttr", text)

    def test_no_warning(self):
        for name, text in self.texts.items():
            with warnings.catch_warnings():
                warnings.simplefilter("error")
                compile(text, name, "exec")

    def test_nodes(self):
        for place, node in self.each():
            if not isinstance(node, (ast.expr_context, ast.operator)):
                self.assertIn(node.__class__.__name__, NODES, place)
            if isinstance(node, ast.operator):
                self.assertIn(node.__class__.__name__, NODES, place)
            if isinstance(node, ast.Constant):
                self.assertTrue(node.value is None or isinstance(node.value, (int, str)), place)

    def test_functions(self):
        for place, node in self.functions():
            self.assertLessEqual(node.end_lineno - node.lineno + 1, 40, place)
            self.assertEqual(node.decorator_list, [], place)
            self.assertIsNone(node.returns, place)
            arguments = node.args
            self.assertIsNone(arguments.vararg or arguments.kwarg, place)
            self.assertEqual(arguments.kwonlyargs + arguments.posonlyargs + arguments.defaults, [], place)
            for argument in arguments.args:
                self.assertIsNone(argument.annotation, place)

    def test_no_nested_functions_and_plain_classes(self):
        for name, tree in self.trees.items():
            for node in tree.body:
                self.assertIsInstance(node, (ast.Expr, ast.ImportFrom, ast.FunctionDef, ast.ClassDef, ast.Assign))
                inner = [part for part in ast.walk(node) if isinstance(part, ast.FunctionDef) and part is not node]
                if isinstance(node, ast.ClassDef):
                    self.assertEqual(node.decorator_list + node.keywords, [])
                    self.assertEqual([part for part in node.body if isinstance(part, ast.FunctionDef)], inner)
                    for part in inner:
                        if part.name.startswith("__"):
                            self.assertIn(part.name, ("__init__", "__eq__"), name)
                        else:
                            self.assertNotIn(part.name, HELD_BY_VALUES | BARRED, name)
                else:
                    self.assertEqual(inner, [], name)

    def test_module_level(self):
        for name, tree in self.trees.items():
            bound = []
            for node in tree.body:
                if isinstance(node, ast.Expr):
                    self.assertIsInstance(node.value.value, str, name)
                elif isinstance(node, ast.ImportFrom):
                    bound.extend(alias.name for alias in node.names)
                elif isinstance(node, ast.Assign):
                    self.assertEqual(len(node.targets), 1)
                    bound.append(node.targets[0].id)
                    ast.literal_eval(node.value)
                else:
                    bound.append(node.name)
            self.assertEqual(len(bound), len(set(bound)), name)
            self.assertEqual([word for word in bound if word in EVERY_BUILTIN | BARRED], [], name)

    def test_imports(self):
        uses = {}
        for name, tree in self.trees.items():
            uses[name] = []
            for node in ast.walk(tree):
                if isinstance(node, ast.ImportFrom):
                    self.assertIn(node, tree.body)
                    self.assertEqual(node.level, 0)
                    package, _, file = node.module.partition(".")
                    self.assertEqual(package, "mapwebs")
                    own = [part.name for part in self.trees[file + ".py"].body
                           if isinstance(part, (ast.FunctionDef, ast.ClassDef))]
                    own += [part.targets[0].id for part in self.trees[file + ".py"].body
                            if isinstance(part, ast.Assign)]
                    for alias in node.names:
                        self.assertIn(alias.name, own, name)
                        self.assertIsNone(alias.asname)
                        self.assertRegex(self.texts[name].split(alias.name, 1)[1],
                                         r"(?s)\b%s\b" % alias.name, "unused in " + name)
                    uses[name].append(file + ".py")
        while uses:
            free = [name for name in uses if not any(other in uses for other in uses[name])]
            self.assertNotEqual(free, [], "files import one another")
            for name in free:
                del uses[name]

    def test_interface_stands_in_its_files(self):
        for name, words in INTERFACE.items():
            own = [node.name for node in self.trees[name + ".py"].body
                   if isinstance(node, (ast.FunctionDef, ast.ClassDef))]
            for word in words.split():
                self.assertIn(word, own)

    def test_names(self):
        for place, node in self.each():
            for word in self.words_of(node):
                self.assertRegex(word, r"\A(_?[A-Za-z][A-Za-z0-9_]*|_|__init__|__eq__)\Z", place)
                self.assertFalse(word.startswith(FIRSTS), place)
            if isinstance(node, ast.Name):
                self.assertNotIn(node.id, BARRED, place)
                if isinstance(node.ctx, ast.Store):
                    self.assertNotIn(node.id, EVERY_BUILTIN, place)
                if node.id == "_":
                    self.assertIsInstance(node.ctx, ast.Store, place)
            if isinstance(node, ast.arg):
                self.assertNotIn(node.arg, EVERY_BUILTIN | BARRED, place)

    def words_of(self, node):
        fields = [getattr(node, field, None) for field in ("id", "name", "arg", "attr")]
        return [word for word in fields if isinstance(word, str)]

    def test_no_local_name_is_a_class_or_an_import(self):
        for name, tree in self.trees.items():
            taken = set()
            for node in tree.body:
                if isinstance(node, ast.ImportFrom):
                    taken.update(alias.name for alias in node.names)
                elif isinstance(node, (ast.ClassDef, ast.FunctionDef)):
                    taken.add(node.name)
                elif isinstance(node, ast.Assign):
                    taken.add(node.targets[0].id)
            for node in ast.walk(tree):
                if isinstance(node, ast.FunctionDef):
                    for part in ast.walk(node):
                        if isinstance(part, ast.arg):
                            self.assertNotIn(part.arg, taken, name)
                        if isinstance(part, ast.Name) and isinstance(part.ctx, ast.Store):
                            self.assertNotIn(part.id, taken, "%s:%d" % (name, part.lineno))

    def test_only_known_names_are_read(self):
        for name, tree in self.trees.items():
            known = set(BUILTINS)
            for node in ast.walk(tree):
                if isinstance(node, ast.ImportFrom):
                    known.update(alias.name for alias in node.names)
                elif isinstance(node, (ast.ClassDef, ast.FunctionDef)):
                    known.add(node.name)
                elif isinstance(node, ast.arg):
                    known.add(node.arg)
                elif isinstance(node, ast.Name) and isinstance(node.ctx, ast.Store):
                    known.add(node.id)
            for node in ast.walk(tree):
                if isinstance(node, ast.Name):
                    self.assertIn(node.id, known, "%s:%d" % (name, node.lineno))

    def test_attributes_and_methods(self):
        assigned = set()
        for _, node in self.each():
            if isinstance(node, ast.Attribute) and isinstance(node.ctx, ast.Store):
                self.assertIsInstance(node.value, ast.Name)
                assigned.add(node.attr)
        self.assertEqual(assigned & (HELD_BY_VALUES - {"count", "index", "title"}), set())
        own = {part.name for _, node in self.each() if isinstance(node, ast.ClassDef)
               for part in node.body if isinstance(part, ast.FunctionDef)}
        self.assertEqual(assigned & own, set())
        called = set()
        for place, node in self.each():
            if isinstance(node, ast.Call) and isinstance(node.func, ast.Attribute):
                called.add(id(node.func))
                self.assertIn(node.func.attr, METHODS | own, place)
                self.assertEqual(node.keywords, [], place)
        for place, node in self.each():
            if isinstance(node, ast.Attribute) and id(node) not in called:
                self.assertIn(node.attr, assigned, place)

    def test_strings(self):
        for name, tree in self.trees.items():
            told = docstrings(tree)
            for node in ast.walk(tree):
                if isinstance(node, ast.Constant) and isinstance(node.value, str) and id(node) not in told:
                    self.assertNotRegex(node.value, r"[%{}]|__", name)
                    self.assertIsNone(WORDS.search(node.value), name)
            stripped = re.sub(r'""".*?"""|#[^\n]*', "", self.texts[name], flags=re.S)
            self.assertIsNone(WORDS.search(stripped), name)
            self.assertNotRegex(self.texts[name], r"\\[^n\\]", name)

    def test_is_stands_beside_none_alone(self):
        for place, node in self.each():
            if isinstance(node, ast.Compare):
                for sign, part in zip(node.ops, node.comparators):
                    if isinstance(sign, (ast.Is, ast.IsNot)):
                        self.assertIsInstance(part, ast.Constant, place)
                        self.assertIn(part.value, (None, True, False), place)

    def test_calls_of_builtins(self):
        for place, node in self.each():
            if isinstance(node, ast.Call) and isinstance(node.func, ast.Name):
                if node.func.id in BUILTINS:
                    allowed = {"sorted": ("key", "reverse"), "min": ("key", "default"), "max": ("key", "default"),
                               "sum": ("start",), "enumerate": ("start",)}.get(node.func.id, ())
                    self.assertTrue(all(word.arg in allowed for word in node.keywords), place)

    def test_what_is_iterated_at_once_is_not_kept(self):
        lazy = ("zip", "enumerate", "reversed", "range", "items", "keys", "values")
        parents = {}
        for _, node in self.each():
            for child in ast.iter_child_nodes(node):
                parents[id(child)] = node
        for place, node in self.each():
            if isinstance(node, ast.Call):
                word = node.func.attr if isinstance(node.func, ast.Attribute) else getattr(node.func, "id", "")
                if word in lazy:
                    above = parents[id(node)]
                    if isinstance(above, ast.Call):
                        self.assertIn(above.func.id, ("list", "tuple", "dict", "sorted", "sum", "enumerate", "zip",
                                                      "reversed", "min", "max"), place)
                        if above.func.id == "reversed":
                            self.assertEqual(word, "range", place)
                    else:
                        self.assertIsInstance(above, (ast.For, ast.comprehension), place)

    def test_loops_do_not_change_what_they_go_over(self):
        for name, tree in self.trees.items():
            for loop in ast.walk(tree):
                if isinstance(loop, ast.For):
                    over = {part.id for part in ast.walk(loop.iter) if isinstance(part, ast.Name)}
                    if isinstance(loop.iter, ast.Call) and getattr(loop.iter.func, "id", "") in ("list", "range"):
                        over = set()
                    for part in [inner for row in loop.body for inner in ast.walk(row)]:
                        place = "%s:%d" % (name, getattr(part, "lineno", 0))
                        if isinstance(part, ast.Subscript) and isinstance(part.ctx, (ast.Store, ast.Del)):
                            self.assertNotIn(getattr(part.value, "id", ""), over, place)
                        if isinstance(part, ast.Call) and isinstance(part.func, ast.Attribute):
                            if part.func.attr in ("append", "extend", "pop", "remove", "insert", "clear", "update"):
                                self.assertNotIn(getattr(part.func.value, "id", ""), over, place)


if __name__ == "__main__":
    unittest.main()
