"""The rules of the language that a short look at the files can check; the others are for the reader."""

import ast
import builtins
import pathlib
import unittest
import warnings

FOLDER = pathlib.Path(__file__).parent.parent / 'quietturns'
FILES = {path.name: path.read_text(encoding='utf-8') for path in sorted(FOLDER.glob('*.py'))}

BUILTINS = '''len range enumerate zip min max sum abs sorted reversed int str bool bytes list tuple dict set frozenset
isinstance ord repr any all divmod Exception ValueError TypeError KeyError IndexError LookupError ZeroDivisionError
ArithmeticError OverflowError RuntimeError NotImplementedError AttributeError StopIteration NotImplemented
iter next map super property staticmethod classmethod object float'''.split()
LIBRARY = {'heapq': ['heappush', 'heappop', 'heapify', 'heapreplace', 'heappushpop'],
           'math': ['gcd', 'lcm', 'isqrt', 'comb', 'perm', 'factorial'],
           'itertools': ['product', 'combinations', 'permutations'], '__future__': ['annotations']}
DOUBLE = '''__init__ __eq__ __repr__ __str__ __len__ __enter__ __exit__ __call__ __iter__ __contains__ __getitem__
__setitem__ __class__ __name__ __slots__'''.split()
BARRED = (ast.AsyncFunctionDef, ast.Await, ast.Global, ast.Div, ast.AsyncFor, ast.AsyncWith)
# With a class that has __eq__, these take a list.
TAKES_A_LIST = ('any', 'all', 'min', 'max', 'sum', 'sorted')


def each(*kinds):
    """Each (place, node) of such nodes in all files."""
    found = []
    for name, text in FILES.items():
        for node in ast.walk(ast.parse(text)):
            if isinstance(node, kinds):
                found.append((f'{name}:{getattr(node, "lineno", "")}', node))
    return found


def known(name):
    """Whether this is a name of Python's own that the program may not give another meaning."""
    return hasattr(builtins, name)


class Language(unittest.TestCase):

    def test_the_folder_holds_python_files_alone(self):
        found = [path.name for path in FOLDER.iterdir() if path.name != '__pycache__']
        self.assertEqual(sorted(found), list(FILES))
        self.assertIn('__init__.py', FILES)

    def test_characters_and_sizes(self):
        for name, text in FILES.items():
            self.assertTrue(all(' ' <= sign <= '~' or sign == '\n' for sign in text), name)
            self.assertLessEqual(len(text.splitlines()), 399, name)
            self.assertLessEqual(max(map(len, text.splitlines())), 120, name)
        for place, node in each(ast.FunctionDef):
            self.assertLessEqual(node.end_lineno - node.lineno + 1, 40, place)

    def test_python_gives_no_warning(self):
        with warnings.catch_warnings():
            warnings.simplefilter('error')
            for name, text in FILES.items():
                compile(text, name, 'exec')

    def test_barred_statements_and_values(self):
        self.assertEqual([place for place, _ in each(*BARRED)], [])
        for place, node in each(ast.Constant):
            self.assertNotIsInstance(node.value, (float, complex), place)
            self.assertNotIn('%', str(node.value), place)

    def test_imports(self):
        self.assertEqual([place for place, _ in each(ast.Import)], [])
        for place, node in each(ast.ImportFrom):
            self.assertEqual(node.level, 0, place)
            for name in node.names:
                self.assertIn(name.name, self.offered(node.module), place)

    def offered(self, module):
        """The names that may be imported from there."""
        if module in LIBRARY:
            return LIBRARY[module]
        package, file = module.split('.')
        self.assertEqual(package, 'quietturns')
        body = ast.parse(FILES[f'{file}.py']).body
        found = [node.name for node in body if isinstance(node, (ast.FunctionDef, ast.ClassDef))]
        return found + [node.targets[0].id for node in body if isinstance(node, ast.Assign)]

    def test_module_level(self):
        for name, text in FILES.items():
            docstring, *rest = ast.parse(text).body
            self.assertIsInstance(docstring.value.value, str, name)
            for node in rest:
                self.assertIsInstance(node, (ast.ImportFrom, ast.FunctionDef, ast.ClassDef, ast.Assign), name)

    def test_names(self):
        for place, node in each(ast.Name):
            own = node.id in BUILTINS and isinstance(node.ctx, ast.Load)
            self.assertTrue(own or not known(node.id), (place, node.id))
        for place, node in each(ast.arg):
            self.assertFalse(known(node.arg), (place, node.arg))
        for place, node in each(ast.FunctionDef, ast.ClassDef):
            self.assertTrue(not node.name.startswith('__') or node.name in DOUBLE, (place, node.name))
        for place, node in each(ast.Attribute):
            self.assertTrue(not node.attr.startswith('__') or node.attr in DOUBLE, (place, node.attr))

    def test_decorators(self):
        for place, node in each(ast.ClassDef):
            self.assertEqual(node.decorator_list, [], place)
        for place, node in each(ast.FunctionDef):
            for decorator in node.decorator_list:
                self.assertRegex(ast.unparse(decorator), r'^(property|staticmethod|classmethod|\w+\.setter)$', place)

    def test_lists_for_what_compares(self):
        for place, node in each(ast.Call):
            if isinstance(node.func, ast.Name) and node.func.id in TAKES_A_LIST:
                for argument in node.args:
                    self.assertNotIsInstance(argument, ast.GeneratorExp, place)
        for place, node in each(ast.Attribute):
            self.assertNotEqual(node.attr, 'sort', place)


if __name__ == '__main__':
    unittest.main()
