"""The rules of the language that can be seen in the code of the package, file by file."""

import ast
import builtins
import os
import re
import unittest

FOLDER = os.path.join(os.path.dirname(os.path.dirname(os.path.abspath(__file__))), "roletalks")

# L8, L5: the builtins that may be used.
BUILTINS = set("""len range enumerate zip min max sum abs sorted reversed int str bool list tuple dict set isinstance
    ord repr any all divmod property super ValueError TypeError KeyError IndexError LookupError""".split())

# L25: the methods of builtin values that may be called.
METHODS = set("""append clear copy count endswith extend find get index insert isalnum isalpha isdigit islower isspace
    isupper items join keys ljust lower lstrip partition pop remove replace reverse rfind rjust rpartition rsplit
    rstrip setdefault split splitlines startswith strip update upper values zfill bit_length add discard sort
    __init__""".split())

# L17: words that are no names, and words that do not occur in the code.
UNUSED_NAMES = set("""register mro elements open input law version_info with_traceback add_note attrgetter breakpoint
    builtins compile copyright credits delattr dir eval exec exit gc globals help id importlib license locals
    methodcaller os quit setattr type vars sys next iter""".split())
UNUSED_WORDS = set("""type typing enum Enum Flag Generic Protocol ABC namedtuple NamedTuple dataclass overload
    abstractmethod contextmanager""".split())

NOT_ALLOWED = (ast.Global, ast.AsyncFunctionDef, ast.AsyncFor, ast.AsyncWith, ast.Await, ast.Import, ast.Div,
               ast.AnnAssign, ast.MatMult)


def package_files():
    """The name and the text of each file of the package."""
    files = []
    for name in sorted(os.listdir(FOLDER)):
        if name != "__pycache__":
            with open(os.path.join(FOLDER, name), encoding="ascii", newline="") as file:
                files.append((name, file.read()))
    return files


def bound_names(tree):
    """All names that a file gives to something, imports, parameters and attributes' owners aside."""
    for node in ast.walk(tree):
        if isinstance(node, ast.Name) and isinstance(node.ctx, ast.Store):
            yield node.id
        elif isinstance(node, ast.arg):
            yield node.arg
        elif isinstance(node, (ast.FunctionDef, ast.ClassDef)):
            yield node.name


def changed_names(loop):
    """The names of lists and dicts that a loop changes by a method, an item or del."""
    for node in ast.walk(loop):
        if isinstance(node, ast.Call) and isinstance(node.func, ast.Attribute):
            if node.func.attr in ("append", "extend", "insert", "pop", "remove", "clear", "update", "setdefault"):
                yield ast.unparse(node.func.value)
        elif isinstance(node, ast.Subscript) and not isinstance(node.ctx, ast.Load):
            yield ast.unparse(node.value)


class LanguageTest(unittest.TestCase):
    def trees(self):
        for name, text in package_files():
            yield name, ast.parse(text)

    def test_files(self):
        for name, text in package_files():
            self.assertRegex(name, r"\A[a-z_]+\.py\Z")
            self.assertRegex(text, r"\A[ -~\n]*\Z", name)
            lines = text.split("\n")
            self.assertLessEqual(len(lines) - 1, 399, name)
            self.assertLessEqual(max([len(line) for line in lines]), 120, name)

    def test_size_of_functions(self):
        for name, tree in self.trees():
            for node in ast.walk(tree):
                if isinstance(node, ast.FunctionDef):
                    self.assertLessEqual(node.end_lineno - node.lineno + 1, 40, f"{name} {node.name}")

    def test_what_stands_at_module_level(self):
        for name, tree in self.trees():
            for node in tree.body[1:]:
                self.assertIsInstance(node, (ast.ImportFrom, ast.FunctionDef, ast.ClassDef, ast.Assign), name)
            self.assertIsNotNone(ast.get_docstring(tree), name)

    def test_decorators(self):
        for name, tree in self.trees():
            for node in ast.walk(tree):
                if isinstance(node, (ast.FunctionDef, ast.ClassDef)):
                    self.assertIn([ast.unparse(one) for one in node.decorator_list], ([], ["property"]), name)

    def test_sets_are_only_measured_sorted_and_searched(self):
        for name, tree in self.trees():
            allowed = set()
            for node in ast.walk(tree):
                if isinstance(node, ast.Call) and isinstance(node.func, ast.Name) and node.func.id in ("len", "sorted"):
                    allowed.update([id(one) for one in node.args])
                elif isinstance(node, ast.Compare):
                    allowed.update([id(one) for one in node.comparators])
            for node in ast.walk(tree):
                is_call = isinstance(node, ast.Call) and isinstance(node.func, ast.Name) and node.func.id == "set"
                if is_call or isinstance(node, (ast.Set, ast.SetComp)):
                    self.assertIn(id(node), allowed, f"{name} line {node.lineno}")

    def test_imports(self):
        places = {}
        uses = {}
        for name, tree in self.trees():
            module = "roletalks." + name[:-3]
            for node in tree.body:
                places.update({(module, bound): True for bound in bound_names(ast.Module([node], []))})
            uses[module] = [node for node in ast.walk(tree) if isinstance(node, ast.ImportFrom)]
        for module, imports in uses.items():
            for node in imports:
                for alias in node.names:
                    self.assertIn((node.module, alias.name), places, module)
                    self.assertIsNone(alias.asname)
        self.check_no_circle({module: [node.module for node in nodes] for module, nodes in uses.items()})

    def check_no_circle(self, uses):
        left = dict(uses)
        while left:
            free = [module for module in left if not [used for used in left[module] if used in left]]
            self.assertTrue(free, f"modules that import one another: {sorted(left)}")
            for module in free:
                del left[module]

    def test_statements_and_values(self):
        for name, tree in self.trees():
            for node in ast.walk(tree):
                told = f"{name} line {getattr(node, 'lineno', 0)}"
                self.assertNotIsInstance(node, NOT_ALLOWED, told)
                if isinstance(node, ast.Constant):
                    self.assertNotIsInstance(node.value, (float, complex), told)
                    self.assertNotIn("%", str(node.value), told)
                if isinstance(node, ast.Set):
                    self.assertFalse([item for item in node.elts if isinstance(item, ast.Starred)], told)
                if isinstance(node, ast.Call) and isinstance(node.func, ast.Name):
                    self.assertFalse(node.func.id in dir(builtins) and node.func.id not in BUILTINS, told)
                if isinstance(node, ast.Raise) and node.exc is not None:
                    self.assertIsInstance(node.exc, ast.Call, told)

    def test_methods_that_are_called(self):
        own = {node.name for _, tree in self.trees() for node in ast.walk(tree) if isinstance(node, ast.FunctionDef)}
        for name, tree in self.trees():
            for node in ast.walk(tree):
                if isinstance(node, ast.Call) and isinstance(node.func, ast.Attribute):
                    self.assertIn(node.func.attr, METHODS | own, f"{name} line {node.lineno}")

    def test_names(self):
        for name, tree in self.trees():
            barred = set(dir(builtins)) | UNUSED_NAMES
            for bound in bound_names(tree):
                if bound != "__init__":
                    self.assertRegex(bound, r"\A_?[A-Za-z][A-Za-z0-9_]*\Z|\A_\Z", name)
                self.assertNotIn(bound, barred, name)

    def test_a_name_means_one_thing_in_a_file(self):
        for name, tree in self.trees():
            top = [alias.name for node in tree.body if isinstance(node, ast.ImportFrom) for alias in node.names]
            top += [node.name for node in tree.body if isinstance(node, (ast.ClassDef, ast.FunctionDef))]
            self.assertEqual(len(top), len(set(top)), name)
            for node in tree.body:
                if isinstance(node, (ast.FunctionDef, ast.ClassDef)):
                    inner = [bound for bound in bound_names(ast.Module(node.body, []))]
                    inner += [argument.arg for argument in ast.walk(node) if isinstance(argument, ast.arg)]
                    self.assertEqual([bound for bound in inner if bound in top], [], f"{name} {node.name}")

    def test_words(self):
        for name, tree in self.trees():
            words = set()
            for node in ast.walk(tree):
                if isinstance(node, (ast.FunctionDef, ast.ClassDef, ast.Module)) and ast.get_docstring(node):
                    node.body[0].value.value = ""
                elif isinstance(node, ast.Attribute):
                    words.add(node.attr)
            words.update(re.findall(r"\w+", ast.unparse(tree)))
            self.assertEqual(words & UNUSED_WORDS, set(), name)

    def test_loops_do_not_change_what_they_go_over(self):
        for name, tree in self.trees():
            for node in ast.walk(tree):
                if isinstance(node, ast.For):
                    gone = {ast.unparse(inner) for inner in ast.walk(node.iter)}
                    changed = set(changed_names(ast.Module(node.body, [])))
                    self.assertEqual(gone & changed, set(), f"{name} line {node.lineno}")


if __name__ == "__main__":
    unittest.main()
