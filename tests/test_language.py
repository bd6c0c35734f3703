"""The rules of the language that plain looking at the files can tell."""

import ast
import builtins
import pathlib
import re
import unittest

PACKAGE = pathlib.Path(__file__).resolve().parent.parent / "kindshifts"
FILES = sorted(PACKAGE.rglob("*.py"))
BUILTINS = ["len", "range", "enumerate", "zip", "min", "max", "sum", "abs", "sorted", "reversed", "int", "str", "bool",
            "list", "tuple", "dict", "set", "isinstance", "ord", "repr", "any", "all", "divmod", "map", "iter", "next",
            "ValueError", "KeyError", "TypeError", "IndexError", "LookupError", "NotImplemented"]
METHODS = ["append", "clear", "copy", "count", "endswith", "extend", "find", "get", "index", "insert", "isalnum",
           "isalpha", "isdigit", "islower", "isspace", "isupper", "items", "join", "keys", "ljust", "lower", "lstrip",
           "partition", "pop", "remove", "replace", "reverse", "rfind", "rjust", "rpartition", "rsplit", "rstrip",
           "setdefault", "split", "splitlines", "startswith", "strip", "update", "upper", "values", "zfill",
           "bit_length"]
NEVER = ["register", "mro", "elements", "open", "input", "law", "version_info", "with_traceback", "add_note"]
WORDS = ["type", "typing", "enum", "Enum", "Generic", "Protocol", "ABC", "namedtuple", "NamedTuple", "TypedDict",
         "abstractmethod", "dataclass", "overload", "contextmanager"]
BARRED = (ast.GeneratorExp, ast.Yield, ast.YieldFrom, ast.Global, ast.AsyncFunctionDef, ast.Await, ast.Div,
          ast.AnnAssign, ast.Import)
DOUBLE = ["__init__", "__eq__", "__enter__", "__exit__"]


def trees():
    return [(path, ast.parse(path.read_text())) for path in FILES]


def nodes(kind):
    return [(path.name, node) for path, tree in trees() for node in ast.walk(tree) if isinstance(node, kind)]


def bound_names(tree):
    """All names that a file gives a meaning, but those of imports."""
    names = [node.id for node in ast.walk(tree) if isinstance(node, ast.Name) and not isinstance(node.ctx, ast.Load)]
    names += [node.arg for node in ast.walk(tree) if isinstance(node, ast.arg)]
    return names + [node.name for node in ast.walk(tree) if isinstance(node, (ast.FunctionDef, ast.ClassDef))]


class Language(unittest.TestCase):
    def test_files_and_lines(self):
        self.assertLessEqual(len(FILES), 100)
        for path in FILES:
            text = path.read_text()
            with self.subTest(path=path.name):
                self.assertRegex(path.name, "^[a-z_]+[.]py$")
                self.assertRegex(text, r"\A[\n -~]*\Z")
                self.assertLess(text.count("\n"), 400)
                self.assertLessEqual(max(len(line) for line in text.split("\n")), 120)
                self.assertNotRegex(text, "_wall|_WallAttr")

    def test_functions_are_short_and_plain(self):
        for name, node in nodes(ast.FunctionDef):
            with self.subTest(path=name, function=node.name):
                self.assertLess(node.end_lineno - node.lineno, 40)
                self.assertEqual((node.decorator_list, node.returns), ([], None))
                self.assertTrue(all(item.annotation is None for item in node.args.args))
                self.assertTrue(not node.name.startswith("__") or node.name in DOUBLE)

    def test_nothing_barred(self):
        self.assertEqual([(name, node.lineno) for name, node in nodes(BARRED)], [])
        self.assertEqual([(name, node.lineno) for name, node in nodes(ast.Constant)
                          if isinstance(node.value, (float, complex, bytes))], [])

    def test_own_errors_alone_are_caught(self):
        errors = [node.name for _, node in nodes(ast.ClassDef) if (PACKAGE / "errors.py").read_text().count(
            f"class {node.name}(")]
        for name, node in nodes(ast.Try):
            with self.subTest(path=name, line=node.lineno):
                self.assertEqual(node.finalbody, [])
                for handler in node.handlers:
                    self.assertIsInstance(handler.type, ast.Name)
                    self.assertIn(handler.type.id, errors)

    def test_leaving_a_block_only_assigns(self):
        for name, node in nodes(ast.FunctionDef):
            if node.name == "__exit__":
                with self.subTest(path=name, line=node.lineno):
                    self.assertEqual([item.arg for item in node.args.args], ["self", "kind", "value", "trace"])
                    for part in node.body:
                        self.assertIsInstance(part, ast.Assign)
                        self.assertIsInstance(part.value, (ast.Attribute, ast.Name))

    def test_imports(self):
        for name, node in nodes(ast.ImportFrom):
            with self.subTest(path=name, line=node.lineno):
                self.assertEqual((node.level, [item.asname for item in node.names]), (0, [None] * len(node.names)))
                self.assertRegex(node.module, "^(kindshifts[.][a-z_]+|math|itertools|heapq|collections)$")
                self.assertNotIn("*", [item.name for item in node.names])

    def test_imports_name_the_file_that_defines(self):
        defined = {path.stem: [node.name for node in tree.body if isinstance(node, (ast.FunctionDef, ast.ClassDef))]
                   + [target.id for node in tree.body if isinstance(node, ast.Assign) for target in node.targets]
                   for path, tree in trees()}
        for path, tree in trees():
            for node in ast.walk(tree):
                if isinstance(node, ast.ImportFrom) and node.module.startswith("kindshifts."):
                    for item in node.names:
                        with self.subTest(path=path.name, item=item.name):
                            self.assertIn(item.name, defined[node.module.partition(".")[2]])
            names = defined[path.stem]
            self.assertEqual(len(names), len(set(names)))

    def test_no_two_files_import_from_each_other(self):
        onward = {path.stem: {node.module.partition(".")[2] for node in ast.walk(tree)
                              if isinstance(node, ast.ImportFrom) and node.module.startswith("kindshifts.")}
                  for path, tree in trees()}
        for name in onward:
            reached, edge = set(), onward[name]
            while edge:
                reached |= edge
                edge = set().union(*[onward[there] for there in edge]) - reached
            with self.subTest(path=name):
                self.assertNotIn(name, reached)

    def test_no_import_is_given_another_meaning_or_left_unused(self):
        for path, tree in trees():
            imported = [item.name for node in ast.walk(tree) if isinstance(node, ast.ImportFrom) for item in node.names]
            used = [node.id for node in ast.walk(tree) if isinstance(node, ast.Name)]
            with self.subTest(path=path.name):
                self.assertEqual(set(imported) & set(bound_names(tree)), set())
                self.assertEqual(set(imported) - set(used), set())

    def test_names(self):
        for path, tree in trees():
            classes = [node.name for node in tree.body if isinstance(node, ast.ClassDef)]
            methods = [node.name for part in tree.body if isinstance(part, ast.ClassDef) for node in part.body
                       if isinstance(node, ast.FunctionDef)]
            for name in bound_names(tree):
                with self.subTest(path=path.name, name=name):
                    self.assertNotIn(name, NEVER)
                    self.assertRegex(name, "^(_?[A-Za-z][A-Za-z0-9_]*|_|__[a-z]+__)$")
                    self.assertTrue(name in methods or not hasattr(builtins, name))
            self.assertEqual([name for name in classes if bound_names(tree).count(name) > 1], [])

    def test_builtins_and_methods(self):
        for path, tree in trees():
            known = bound_names(tree) + [item.name for node in ast.walk(tree) if isinstance(node, ast.ImportFrom)
                                         for item in node.names]
            own = [node.name for _, other in trees() for node in ast.walk(other) if isinstance(node, ast.FunctionDef)]
            for node in ast.walk(tree):
                if isinstance(node, ast.Name) and node.id not in known:
                    with self.subTest(path=path.name, line=node.lineno, name=node.id):
                        self.assertIn(node.id, BUILTINS)
                if isinstance(node, ast.Call) and isinstance(node.func, ast.Attribute):
                    with self.subTest(path=path.name, line=node.lineno, method=node.func.attr):
                        self.assertIn(node.func.attr, METHODS + own)

    def test_is_stands_beside_none_and_booleans_alone(self):
        for name, node in nodes(ast.Compare):
            for sign, other in zip(node.ops, node.comparators):
                if isinstance(sign, (ast.Is, ast.IsNot)):
                    with self.subTest(path=name, line=node.lineno):
                        self.assertTrue(isinstance(other, ast.Constant) and other.value in (None, True, False))

    def test_module_level(self):
        plain = (ast.ImportFrom, ast.FunctionDef, ast.ClassDef, ast.Assign)
        for path, tree in trees():
            for place, node in enumerate(tree.body):
                docstring = place == 0 and isinstance(node, ast.Expr) and isinstance(node.value, ast.Constant)
                with self.subTest(path=path.name, line=node.lineno):
                    self.assertTrue(docstring or isinstance(node, plain))

    def test_barred_words_stand_in_comments_and_docstrings_alone(self):
        for path, tree in trees():
            docs = [ast.get_docstring(node, clean=False) for node in ast.walk(tree)
                    if isinstance(node, (ast.Module, ast.ClassDef, ast.FunctionDef))]
            text = re.sub("#[^\n]*", "", path.read_text())
            for doc in [doc for doc in docs if doc]:
                text = text.replace(doc, "")
            for word in WORDS:
                with self.subTest(path=path.name, word=word):
                    self.assertNotRegex(text, rf"\b{word}\b")

    def test_strings(self):
        for name, node in nodes(ast.Constant):
            if isinstance(node.value, str):
                with self.subTest(path=name, line=node.lineno):
                    self.assertNotIn("%", node.value)
                    self.assertNotRegex(node.value, r"\A__.*__\Z|[.]_+\Z")


if __name__ == "__main__":
    unittest.main()
