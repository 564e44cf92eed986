"""The form of the package's files: those rules of LANGUAGE.md that can be seen in a file."""

import ast
import builtins
import io
import os
import tokenize
import unittest

PACKAGE = os.path.join(os.path.dirname(os.path.dirname(os.path.abspath(__file__))), "spreadhues")
BUILTINS = set("""len range enumerate zip min max sum abs sorted reversed int str bool list tuple dict set isinstance
    ord repr any all divmod iter next ValueError property""".split())
METHODS = set("""append clear copy count endswith extend find get index insert isalnum isalpha isdigit islower isspace
    isupper items join keys ljust lower lstrip partition pop remove replace reverse rfind rjust rpartition rsplit
    rstrip setdefault split splitlines startswith strip update upper values zfill bit_length add discard""".split())
DUNDERS = {"__init__", "__eq__", "__len__", "__iter__"}
BARRED = set("""register mro elements open input law version_info with_traceback add_note attrgetter breakpoint
    builtins compile copyright credits delattr dir eval exec exit gc getattr globals hasattr help id importlib license
    locals methodcaller os quit setattr super type vars sys print""".split())
LAZY = {"zip", "enumerate", "reversed", "range", "map"}
VIEWS = {"items", "keys", "values"}
CHANGING = {"append", "clear", "extend", "insert", "pop", "remove", "reverse", "setdefault", "update"}
TAKERS = {"list", "tuple", "dict", "sorted", "sum", "any", "all", "enumerate", "zip", "min", "max"}
STATEMENTS = (
    ast.FunctionDef, ast.ClassDef, ast.Return, ast.Delete, ast.Assign, ast.AugAssign, ast.For, ast.While, ast.If,
    ast.With, ast.Raise, ast.Try, ast.Assert, ast.Import, ast.ImportFrom, ast.Nonlocal, ast.Expr, ast.Pass,
    ast.Break, ast.Continue,
)
COMPREHENSIONS = (ast.ListComp, ast.SetComp, ast.DictComp)


def sources():
    for name in sorted(os.listdir(PACKAGE)):
        if name != "__pycache__":
            with open(os.path.join(PACKAGE, name), encoding="utf-8", newline="") as file:
                yield name, file.read()


def trees():
    for name, text in sources():
        tree = ast.parse(text)
        for node in ast.walk(tree):
            for child in ast.iter_child_nodes(node):
                child.parent = node
        yield name, tree


def functions(tree):
    return [node for node in ast.walk(tree) if isinstance(node, ast.FunctionDef)]


def stored(node):
    """The names that are assigned within the node, parameters included."""
    names = {part.id for part in ast.walk(node) if isinstance(part, ast.Name) and isinstance(part.ctx, ast.Store)}
    return names | {part.arg for part in ast.walk(node) if isinstance(part, ast.arg)}


def called(node):
    return node.func.id if isinstance(node, ast.Call) and isinstance(node.func, ast.Name) else None


def names_in(node):
    return {part.id for part in ast.walk(node) if isinstance(part, ast.Name)}


def shared_names(function):
    """A function that gives names which stand for one thing, as far as plain assignments tell, one name."""
    linked = {}

    def one_name(word):
        return word if word not in linked else one_name(linked[word])

    def link(word, value):
        for choice in {ast.IfExp: ["body", "orelse"], ast.BoolOp: ["values"]}.get(type(value), []):
            part = getattr(value, choice)
            for each in part if isinstance(part, list) else [part]:
                link(word, each)
        while isinstance(value, (ast.Attribute, ast.Subscript)):
            value = value.value
        if isinstance(value, ast.Name) and one_name(word) != one_name(value.id):
            linked[one_name(word)] = one_name(value.id)

    for node in ast.walk(function):
        if isinstance(node, ast.Assign):
            for target in node.targets:
                if isinstance(target, ast.Name):
                    link(target.id, node.value)
    return one_name


def gone_over(node):
    """The names of what a loop goes over; list(..), sorted(..) and own functions give another thing."""
    if called(node) in ("enumerate", "zip", "reversed"):
        return {word for part in node.args for word in gone_over(part)}
    if isinstance(node, ast.Call) and isinstance(node.func, ast.Attribute) and node.func.attr in VIEWS:
        return gone_over(node.func.value)
    return set() if called(node) else names_in(node)


def changed_names(node):
    """The names in the expression for the thing, of which the node itself changes an item or which it makes longer."""
    if isinstance(node, ast.Call) and isinstance(node.func, ast.Attribute) and node.func.attr in CHANGING:
        return names_in(node.func.value)
    if isinstance(node, ast.Subscript) and not isinstance(node.ctx, ast.Load):
        return names_in(node.value)
    return set()


def is_docstring(node):
    return isinstance(node.parent, ast.Expr)


class Form(unittest.TestCase):
    def wrong(self, name, node, why):
        self.fail(f"{name}:{getattr(node, 'lineno', node)}: {why}")

    def test_files(self):
        for name, text in sources():
            self.assertRegex(name, r"^[a-z_][a-z0-9_]*\.py$")
            lines = text.split("\n")
            self.assertLessEqual(len(lines), 400, name)
            for number, line in enumerate(lines, 1):
                if len(line) > 120 or any(not " " <= sign <= "~" for sign in line):
                    self.wrong(name, number, "a long line or a foreign sign")
            for word in ("_wall", "_WallAttr"):
                self.assertNotIn(word, text)

    def test_functions_are_short(self):
        for name, tree in trees():
            for node in functions(tree):
                if node.end_lineno - node.lineno + 1 > 40:
                    self.wrong(name, node, "more than 40 lines")

    def test_module_level(self):
        for name, tree in trees():
            bound = []
            for node in tree.body:
                if isinstance(node, ast.Expr) and isinstance(node.value, ast.Constant):
                    continue
                if isinstance(node, ast.ImportFrom):
                    bound.extend(alias.name for alias in node.names)
                elif isinstance(node, (ast.FunctionDef, ast.ClassDef)):
                    bound.append(node.name)
                elif isinstance(node, ast.Assign) and isinstance(node.targets[0], ast.Name):
                    self.assertEqual(len(node.targets), 1)
                    ast.literal_eval(node.value)
                    bound.append(node.targets[0].id)
                else:
                    self.wrong(name, node, "not let at module level")
            self.assertEqual(len(bound), len(set(bound)), name)

    def test_imports(self):
        defined = {}
        needs = {}
        for name, tree in trees():
            module = name[:-3]
            own = [node.name for node in tree.body if isinstance(node, (ast.FunctionDef, ast.ClassDef))]
            own += [node.targets[0].id for node in tree.body if isinstance(node, ast.Assign)]
            defined[module] = own
            needs[module] = set()
        for name, tree in trees():
            for node in ast.walk(tree):
                if isinstance(node, ast.Import):
                    self.wrong(name, node, "import")
                if isinstance(node, ast.ImportFrom):
                    self.assertIs(node.parent, tree)
                    package, _, module = node.module.partition(".")
                    self.assertEqual((package, node.level), ("spreadhues", 0))
                    needs[name[:-3]].add(module)
                    for alias in node.names:
                        self.assertIn(alias.name, defined[module])
                        self.assertIsNone(alias.asname)
        while needs:
            free = [module for module, wanted in needs.items() if not wanted & set(needs)]
            self.assertTrue(free, f"a ring of imports among {sorted(needs)}")
            for module in free:
                del needs[module]

    def test_imports_are_used(self):
        for name, tree in trees():
            used = {node.id for node in ast.walk(tree) if isinstance(node, ast.Name)}
            for node in tree.body:
                if isinstance(node, ast.ImportFrom):
                    for alias in node.names:
                        self.assertIn(alias.name, used, f"{name}: not used")

    def test_statements(self):
        for name, tree in trees():
            for node in ast.walk(tree):
                if isinstance(node, ast.stmt) and not isinstance(node, STATEMENTS):
                    self.wrong(name, node, "statement")
                if isinstance(node, (ast.GeneratorExp, ast.Div, ast.Await, ast.NamedExpr, ast.YieldFrom, ast.AnnAssign)):
                    self.wrong(name, node, type(node).__name__)
                if isinstance(node, ast.Constant) and isinstance(node.value, (float, complex)):
                    self.wrong(name, node, "a number that is not whole")
                if isinstance(node, ast.ExceptHandler) and not isinstance(node.type, ast.Name):
                    self.wrong(name, node, "handler")
                if isinstance(node, ast.Compare) and isinstance(node.ops[0], (ast.Is, ast.IsNot)):
                    if not isinstance(node.comparators[0], ast.Constant):
                        self.wrong(name, node, "is")

    def test_strings(self):
        for name, tree in trees():
            for node in ast.walk(tree):
                if isinstance(node, ast.Constant) and isinstance(node.value, str) and not is_docstring(node):
                    if "%" in node.value or node.value.endswith("._"):
                        self.wrong(name, node, "string")
        for name, text in sources():
            for token in tokenize.generate_tokens(io.StringIO(text).readline):
                if token.type == tokenize.STRING and "\\" in token.string.replace("\\n", "").replace("\\\\", ""):
                    self.wrong(name, token.start[0], "escape")

    def test_names(self):
        barred = BARRED | set(dir(builtins))
        for name, tree in trees():
            for node in ast.walk(tree):
                if isinstance(node, ast.Name) and isinstance(node.ctx, ast.Load):
                    if node.id in dir(builtins) and node.id not in BUILTINS:
                        self.wrong(name, node, f"builtin {node.id}")
                    if node.id == "_":
                        self.wrong(name, node, "_ is read")
            own = [node.name for node in ast.walk(tree) if isinstance(node, (ast.FunctionDef, ast.ClassDef))]
            for word in (stored(tree) | set(own)) - DUNDERS:
                if word in barred or word.startswith("__"):
                    self.wrong(name, 0, f"name {word}")

    def test_no_name_has_two_meanings(self):
        for name, tree in trees():
            taken = set()
            for node in tree.body:
                if isinstance(node, ast.ImportFrom):
                    taken |= {alias.name for alias in node.names}
                if isinstance(node, (ast.ClassDef, ast.FunctionDef)):
                    taken.add(node.name)
            for node in functions(tree):
                both = taken & stored(node)
                if both:
                    self.wrong(name, node, f"also an import, a class or a function: {both}")

    def test_classes(self):
        for name, tree in trees():
            for node in ast.walk(tree):
                if isinstance(node, ast.ClassDef):
                    self.assertIs(node.parent, tree)
                    self.assertFalse(node.decorator_list)
                    for method in node.body:
                        if isinstance(method, ast.FunctionDef) and method.name.startswith("__"):
                            self.assertIn(method.name, DUNDERS)
                if isinstance(node, ast.FunctionDef):
                    for decorator in node.decorator_list:
                        self.assertEqual(getattr(decorator, "id", None), "property")

    def test_methods(self):
        own = {method.name for _, tree in trees() for node in ast.walk(tree) if isinstance(node, ast.ClassDef)
               for method in node.body if isinstance(method, ast.FunctionDef)}
        self.assertFalse(own & METHODS)
        for name, tree in trees():
            for node in ast.walk(tree):
                if isinstance(node, ast.Call) and isinstance(node.func, ast.Attribute):
                    base = node.func.attr == "__init__" and isinstance(node.func.value, ast.Name)
                    if node.func.attr not in METHODS | own and not base:
                        self.wrong(name, node, f"method {node.func.attr}")
                    if node.keywords:
                        self.wrong(name, node, "keyword of a method")

    def test_no_attribute_has_the_name_of_a_property_or_of_a_method(self):
        assigned, named = set(), set()
        for _, tree in trees():
            for node in ast.walk(tree):
                if isinstance(node, ast.Attribute) and isinstance(node.ctx, ast.Store):
                    assigned.add(node.attr)
                if isinstance(node, ast.ClassDef):
                    named |= {method.name for method in node.body if isinstance(method, ast.FunctionDef)}
        self.assertFalse(assigned & named)

    def test_generators_are_iterated_at_once(self):
        generators = {node.name for _, tree in trees() for node in functions(tree)
                      if any(isinstance(part, ast.Yield) for part in ast.walk(node))}
        for name, tree in trees():
            for node in ast.walk(tree):
                if isinstance(node, ast.Name) and node.id in generators:
                    call = node.parent
                    self.assertTrue(isinstance(call, ast.Call) and call.func is node, f"{name}: {node.id} as a value")
                    parent = call.parent
                    looped = isinstance(parent, (ast.For, ast.comprehension)) and parent.iter is call
                    if not looped and called(parent) not in TAKERS:
                        self.wrong(name, node, "not iterated at once")

    def test_lazy_things_are_iterated_at_once(self):
        for name, tree in trees():
            for node in ast.walk(tree):
                view = isinstance(node, ast.Call) and isinstance(node.func, ast.Attribute) and node.func.attr in VIEWS
                if not view and called(node) not in LAZY:
                    continue
                parent = node.parent
                looped = isinstance(parent, (ast.For, ast.comprehension)) and parent.iter is node
                if not looped and called(parent) not in TAKERS:
                    self.wrong(name, node, "not iterated at once")

    def test_sets(self):
        for name, tree in trees():
            for node in ast.walk(tree):
                if isinstance(node, (ast.Set, ast.SetComp)) or called(node) == "set":
                    tested = isinstance(node.parent, ast.Compare) and node in node.parent.comparators
                    if called(node.parent) not in ("sorted", "len") and not tested:
                        self.wrong(name, node, "a set that is kept or iterated")

    def test_loops_do_not_change_what_they_go_over(self):
        for name, tree in trees():
            for function in functions(tree):
                sharing = shared_names(function)
                for loop in [node for node in ast.walk(function) if isinstance(node, ast.For)]:
                    gone = gone_over(loop.iter)
                    shared = {sharing(part) for part in gone}
                    for node in [part for row in loop.body for part in ast.walk(row)]:
                        if isinstance(node, ast.Name) and isinstance(node.ctx, ast.Store) and node.id in gone:
                            self.wrong(name, node, "assigns what is iterated")
                        if shared & {sharing(part) for part in changed_names(node)}:
                            self.wrong(name, node, "changes what is iterated")

    def test_what_the_test_of_loops_tells(self):
        for changed, text in (
            (True, "for x in xs:\n  xs.append(x)"),
            (True, "for x in xs:\n  xs[0] = x"),
            (True, "for x in enumerate(xs):\n  xs[0] += 1"),
            (True, "for x in xs.items():\n  del xs[0]"),
            (True, "for x in b.near[0]:\n  d.setdefault(b.start[x], {})[x] = 1"),
            (True, "for x in xs:\n  ys.append(x)\nxs = ys"),
            (True, "for x in xs:\n  ys[x] = 1\nxs = zs if a else ys"),
            (False, "for x in list(xs):\n  xs.append(x)"),
            (False, "for x in f(xs):\n  xs[x] = 1"),
            (False, "for x in xs:\n  ys.append(x)\nxs = list(ys)"),
            (False, "for x in xs:\n  ys.append(x)\n"),
            (False, "for x in xs:\n  ys.get(x)\nxs = ys"),
        ):
            function = ast.parse("def f():\n  " + text.replace("\n", "\n  ")).body[0]
            sharing = shared_names(function)
            shared = {sharing(part) for part in gone_over(function.body[0].iter)}
            told = {sharing(part) for node in ast.walk(function.body[0]) for part in changed_names(node)}
            self.assertEqual(bool(shared & told), changed, text)

    def test_names_in_comprehensions(self):
        for name, tree in trees():
            for node in ast.walk(tree):
                if not isinstance(node, COMPREHENSIONS):
                    continue
                own = {target for part in node.generators for target in stored(part.target)}
                outer = node.parent
                while outer is not None and not isinstance(outer, ast.FunctionDef):
                    if isinstance(outer, COMPREHENSIONS):
                        further = {target for part in outer.generators for target in stored(part.target)}
                        if own & further:
                            self.wrong(name, node, "a variable of a comprehension further out")
                    outer = getattr(outer, "parent", None)
                self.assertIsNotNone(outer, f"{name}: a comprehension outside of functions")


if __name__ == "__main__":
    unittest.main()
