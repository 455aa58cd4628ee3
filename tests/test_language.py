"""What of LANGUAGE.md is plain to see in the parts of the code; the rest is looked at by hand."""

import ast
import builtins
import unittest

from tests.test_package import sources

# L8
BUILTINS = """
    len range enumerate zip min max sum abs sorted reversed int str bool list tuple dict set isinstance ord repr any all
    divmod getattr hasattr setattr iter next map property staticmethod classmethod super NotImplemented Exception
    ValueError TypeError KeyError IndexError LookupError ZeroDivisionError ArithmeticError OverflowError RuntimeError
    NotImplementedError
""".split()

# L25, without those of bytes
METHODS = """
    append clear copy count endswith extend find get index insert isalnum isalpha isdigit islower isspace isupper items
    join keys ljust lower lstrip partition pop remove replace reverse rfind rjust rpartition rsplit rstrip setdefault
    split splitlines startswith strip update upper values zfill bit_length add discard
""".split()

# L17: no names, and not in strings either
BARRED_WORDS = """
    type typing typing_extensions enum Enum IntEnum StrEnum Flag IntFlag Generic Protocol ABC ABCMeta namedtuple
    NamedTuple TypedDict TYPE_CHECKING abstractmethod
""".split()

# L17: no names
BARRED_NAMES = "register mro elements open input law version_info with_traceback add_note exit id help vars dir".split()

KEEPING_ERRORS = ("InvalidNumber", "UnknownName", "ParseError", "NothingToUndo", "TooMany", "Refused")


def docstrings(tree):
    """The nodes of all docstrings."""
    bodies = [node.body for node in ast.walk(tree) if isinstance(node, (ast.Module, ast.ClassDef, ast.FunctionDef))]
    return [body[0].value for body in bodies if body and isinstance(body[0], ast.Expr)]


def called(node):
    """The bare name that a node calls, "" if it calls none."""
    return getattr(node.func, "id", "") if isinstance(node, ast.Call) else ""


class LanguageTest(unittest.TestCase):
    @classmethod
    def setUpClass(cls):
        cls.trees = [(path, ast.parse(text)) for path, text in sources()]
        cls.nodes = [(path, node) for path, tree in cls.trees for node in ast.walk(tree)]

    def test_builtins_and_methods(self):
        own = [each.name for _, node in self.nodes if isinstance(node, ast.ClassDef) for each in node.body[1:]]
        for path, node in self.nodes:
            if isinstance(node, ast.Name) and hasattr(builtins, node.id):
                self.assertIn(node.id, BUILTINS, (path, node.lineno))
            if isinstance(node, ast.Call) and isinstance(node.func, ast.Attribute):
                self.assertIn(node.func.attr, METHODS + own, (path, node.lineno))
        self.assertEqual(set(own) & set(METHODS), set())

    def test_nothing_has_the_name_of_a_builtin_an_import_a_class_or_a_function(self):
        for path, tree in self.trees:
            nodes = list(ast.walk(tree))
            bound = {alias.name for node in nodes if isinstance(node, ast.ImportFrom) for alias in node.names}
            bound |= {node.name for node in tree.body if isinstance(node, (ast.ClassDef, ast.FunctionDef))}
            for node in nodes:
                name = node.arg if isinstance(node, ast.arg) else ""
                if isinstance(node, ast.Name) and isinstance(node.ctx, ast.Store):
                    name = node.id
                self.assertNotIn(name, bound, path)
                self.assertFalse(hasattr(builtins, name), (path, name))

    def test_properties_are_assigned_by_nobody(self):
        told = [node for _, node in self.nodes if isinstance(node, ast.FunctionDef) and node.decorator_list]
        for path, node in self.nodes:
            if isinstance(node, ast.Attribute) and isinstance(node.ctx, ast.Store):
                self.assertNotIn(node.attr, [each.name for each in told], path)

    def test_attributes_that_are_read_are_assigned_by_some_class(self):
        assigned = {node.attr for _, node in self.nodes if isinstance(node, ast.Attribute) and isinstance(node.ctx, ast.Store)}
        for _, node in self.nodes:
            if isinstance(node, ast.ClassDef):
                methods = {each.name for each in node.body if isinstance(each, ast.FunctionDef)}
                its = {
                    each.attr for each in ast.walk(node) if isinstance(each, ast.Attribute) and isinstance(each.ctx, ast.Store)
                }
                self.assertEqual(methods & its, set())
                assigned |= methods
        for path, node in self.nodes:
            if isinstance(node, ast.Attribute) and node.attr not in METHODS:
                self.assertIn(node.attr, assigned, (path, node.lineno))

    def test_parts_that_are_barred(self):
        barred = (ast.Global, ast.AsyncFunctionDef, ast.Set, ast.Div, ast.GeneratorExp, ast.Yield, ast.Import)
        for path, node in self.nodes:
            self.assertNotIsInstance(node, barred, path)
            if isinstance(node, ast.Constant):
                self.assertNotIsInstance(node.value, (float, complex, bytes), path)
            if isinstance(node, ast.BinOp) and isinstance(node.op, ast.Pow):
                self.assertIn(node.right.value, range(65), path)
            if isinstance(node, ast.Compare) and isinstance(node.ops[0], (ast.Is, ast.IsNot)):
                self.assertIn(node.comparators[0].value, (None, True, False), path)

    def test_stars_of_calls_stand_ahead_of_names(self):
        for path, node in self.nodes:
            for argument in node.args if isinstance(node, ast.Call) else ():
                if isinstance(argument, ast.Starred):
                    self.assertIsInstance(argument.value, ast.Name, path)

    def test_what_is_iterated_at_once(self):
        let = []
        for _, node in self.nodes:
            if isinstance(node, (ast.For, ast.comprehension)):
                let.append(node.iter)
            if called(node) in ("list", "tuple", "dict", "sorted", "sum"):
                let.extend(node.args)
        for path, node in self.nodes:
            name = called(node) or (getattr(node.func, "attr", "") if isinstance(node, ast.Call) else "")
            if name in ("zip", "enumerate", "reversed", "items", "keys", "values"):
                self.assertTrue(any(node is each for each in let), (path, node.lineno))

    def test_barred_words(self):
        for path, tree in self.trees:
            told = docstrings(tree)
            for node in ast.walk(tree):
                words = [getattr(node, field, None) for field in ("id", "attr", "name", "arg")]
                if isinstance(node, ast.Constant) and isinstance(node.value, str):
                    self.assertNotIn("%", node.value, path)
                    if not any(node is each for each in told):
                        for word in node.value.split():
                            self.assertNotIn(word, BARRED_WORDS, path)
                for word in words:
                    self.assertNotIn(word, BARRED_WORDS + BARRED_NAMES, path)

    def test_errors_without_an_init_get_a_string(self):
        for path, node in self.nodes:
            if isinstance(node, ast.Raise):
                self.assertIsInstance(node.exc, ast.Call, path)
                if called(node.exc) not in KEEPING_ERRORS:
                    self.assertEqual(len(node.exc.args), 1)
                    self.assertIsInstance(node.exc.args[0], (ast.Constant, ast.JoinedStr), (path, node.lineno))

    def test_each_folder_and_file_has_a_docstring(self):
        for path, tree in self.trees:
            self.assertIsNotNone(ast.get_docstring(tree), path)


if __name__ == "__main__":
    unittest.main()
