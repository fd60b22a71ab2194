"""The rules of the language that a short look at the files can check; the others are for the reader."""

import ast
import builtins
import pathlib
import re
import unittest
import warnings

FOLDER = pathlib.Path(__file__).parent.parent / 'quietturns'
FILES = {path.name: path.read_text(encoding='utf-8') for path in sorted(FOLDER.glob('*.py'))}

BUILTINS = '''len range enumerate zip min max sum abs sorted reversed int str bool bytes list tuple dict set frozenset
isinstance ord repr any all divmod Exception ValueError TypeError KeyError IndexError LookupError ZeroDivisionError
ArithmeticError OverflowError RuntimeError NotImplementedError AttributeError StopIteration NotImplemented
iter next map super property staticmethod classmethod object float'''.split()
LIBRARY = {'heapq': ['heappush', 'heappop', 'heapify', 'heapreplace', 'heappushpop'],
           'math': ['gcd', 'lcm', 'isqrt', 'comb', 'perm', 'factorial'],
           'itertools': ['product', 'combinations', 'permutations'], '__future__': ['annotations']}
DOUBLE = '''__init__ __eq__ __repr__ __str__ __len__ __enter__ __exit__ __call__ __iter__ __contains__ __getitem__
__setitem__ __class__ __name__ __slots__'''.split()
BARRED = (ast.AsyncFunctionDef, ast.Await, ast.Global, ast.Div, ast.AsyncFor, ast.AsyncWith)
# With a class that has __eq__, these take a list.
TAKES_A_LIST = ('any', 'all', 'min', 'max', 'sum', 'sorted')
TAKES_AT_ONCE = ('list', 'tuple', 'dict', 'sorted', 'sum', 'any', 'all', 'enumerate', 'min', 'max')


WORDS = """register mro elements open input law version_info with_traceback add_note type typing enum Enum Generic
Protocol ABC namedtuple NamedTuple TypedDict abstractmethod dataclass overload contextmanager dir id vars eval exec exit
getattr setattr hasattr globals locals compile os gc format global chr frozenset""".split()
METHODS = """append clear copy count endswith extend find get index insert isalnum isalpha isdigit islower isspace
isupper items join keys ljust lower lstrip partition pop remove replace reverse rfind rjust rpartition rsplit rstrip
setdefault split splitlines startswith strip update upper values zfill bit_length""".split()


def without_docstrings(tree):
    """The tree with a pass in place of each docstring."""
    for node in ast.walk(tree):
        if isinstance(node, (ast.Module, ast.FunctionDef, ast.ClassDef)) and ast.get_docstring(node) is not None:
            node.body[0] = ast.Pass()
    return tree


def each(*kinds, files=FILES):
    """Each (place, node) of such nodes in all files."""
    found = []
    for name, text in files.items():
        for node in ast.walk(ast.parse(text)):
            if isinstance(node, kinds):
                found.append((f'{name}:{getattr(node, "lineno", "")}', node))
    return found


def is_property(node):
    """Whether a function is a property."""
    return 'property' in [ast.unparse(each) for each in node.decorator_list]


def stored(tree):
    """The names of all attributes that are assigned in a tree."""
    return {node.attr for node in ast.walk(tree) if isinstance(node, ast.Attribute) and isinstance(node.ctx, ast.Store)}


def called(function):
    """The names of all functions and methods that a function calls."""
    found = [node.func for node in ast.walk(function) if isinstance(node, ast.Call)]
    return {node.id if isinstance(node, ast.Name) else node.attr for node in found}


def block_ends(files):
    """Each (place, node) that is run as a block is left: __exit__, the methods that it calls, and each finally."""
    functions = each(ast.FunctionDef, files=files)
    reached, waiting = set(), {'__exit__'}
    while waiting - reached:
        reached |= waiting
        waiting = {name for _, node in functions if node.name in reached for name in called(node)}
    found = [(place, row) for place, node in functions if node.name in reached for row in node.body]
    return found + [(place, row) for place, node in each(ast.Try, files=files) for row in node.finalbody]


def questions(node):
    """What the tests in a node ask, one by one: what stands between and, or and not; and all comparisons."""
    found = []
    for part in ast.walk(node):
        if isinstance(part, (ast.If, ast.IfExp, ast.While, ast.Assert)):
            found.append(part.test)
        elif isinstance(part, ast.BoolOp):
            found += part.values
        elif isinstance(part, ast.UnaryOp) and isinstance(part.op, ast.Not):
            found.append(part.operand)
        elif isinstance(part, ast.Compare):
            found.append(part)
    return [part for part in found if not isinstance(part, ast.BoolOp)
            and not (isinstance(part, ast.UnaryOp) and isinstance(part.op, ast.Not))]


def may_be_asked(node, plainly):
    """Whether a name or an attribute is asked for None; if plainly, also alone or compared with a literal."""
    if not isinstance(node, ast.Compare):
        return plainly and isinstance(node, (ast.Name, ast.Attribute))
    if len(node.ops) > 1 or not isinstance(node.left, (ast.Name, ast.Attribute)):
        return False
    if not isinstance(node.comparators[0], ast.Constant):
        return False
    if isinstance(node.ops[0], (ast.Is, ast.IsNot)):
        return node.comparators[0].value is None
    return plainly and not isinstance(node.ops[0], (ast.In, ast.NotIn))


def barred_questions(files):
    """Each (place, text) of a test that may not stand where a block is left."""
    plainly = not {'__eq__', '__len__'} & {node.name for _, node in each(ast.FunctionDef, files=files)}
    return sorted({(place, ast.unparse(asked)) for place, row in block_ends(files) for asked in questions(row)
                   if not may_be_asked(asked, plainly)})


def known(name):
    """Whether this is a name of Python's own that the program may not give another meaning."""
    # Python itself keeps what was last shown as _ there.
    return name != '_' and hasattr(builtins, name)


class Language(unittest.TestCase):

    def test_the_folder_holds_python_files_alone(self):
        found = [path.name for path in FOLDER.iterdir() if path.name != '__pycache__']
        self.assertEqual(sorted(found), list(FILES))
        self.assertIn('__init__.py', FILES)

    def test_characters_and_sizes(self):
        for name, text in FILES.items():
            self.assertTrue(all(' ' <= sign <= '~' or sign == '\n' for sign in text), name)
            self.assertLessEqual(len(text.splitlines()), 399, name)
            self.assertLessEqual(max(map(len, text.splitlines())), 120, name)
        for place, node in each(ast.FunctionDef):
            self.assertLessEqual(node.end_lineno - node.lineno + 1, 40, place)

    def test_python_gives_no_warning(self):
        with warnings.catch_warnings():
            warnings.simplefilter('error')
            for name, text in FILES.items():
                compile(text, name, 'exec')

    def test_barred_statements_and_values(self):
        self.assertEqual([place for place, _ in each(*BARRED)], [])
        for place, node in each(ast.Constant):
            self.assertNotIsInstance(node.value, (float, complex), place)
            self.assertNotIn('%', str(node.value), place)

    def test_imports(self):
        self.assertEqual([place for place, _ in each(ast.Import)], [])
        for place, node in each(ast.ImportFrom):
            self.assertEqual(node.level, 0, place)
            for name in node.names:
                self.assertIn(name.name, self.offered(node.module), place)

    def offered(self, module):
        """The names that may be imported from there."""
        if module in LIBRARY:
            return LIBRARY[module]
        package, file = module.split('.')
        self.assertEqual(package, 'quietturns')
        body = ast.parse(FILES[f'{file}.py']).body
        found = [node.name for node in body if isinstance(node, (ast.FunctionDef, ast.ClassDef))]
        return found + [node.targets[0].id for node in body if isinstance(node, ast.Assign)]

    def test_module_level(self):
        for name, text in FILES.items():
            docstring, *rest = ast.parse(text).body
            self.assertIsInstance(docstring.value.value, str, name)
            for node in rest:
                self.assertIsInstance(node, (ast.ImportFrom, ast.FunctionDef, ast.ClassDef, ast.Assign), name)

    def test_names(self):
        for place, node in each(ast.Name):
            own = node.id in BUILTINS and isinstance(node.ctx, ast.Load)
            self.assertTrue(own or not known(node.id), (place, node.id))
        for place, node in each(ast.arg):
            self.assertFalse(known(node.arg), (place, node.arg))
        for place, node in each(ast.FunctionDef, ast.ClassDef):
            self.assertTrue(not node.name.startswith('__') or node.name in DOUBLE, (place, node.name))
        for place, node in each(ast.Attribute):
            self.assertTrue(not node.attr.startswith('__') or node.attr in DOUBLE, (place, node.attr))

    def test_no_name_of_a_class_or_an_import_is_assigned_in_a_function(self):
        for name, text in FILES.items():
            tree = ast.parse(text)
            bound = [alias.name for node in tree.body if isinstance(node, ast.ImportFrom) for alias in node.names]
            bound += [node.name for node in tree.body if isinstance(node, ast.ClassDef)]
            self.assertEqual(len(bound), len(set(bound)), name)
            for node in ast.walk(tree):
                if isinstance(node, ast.Name) and not isinstance(node.ctx, ast.Load):
                    self.assertNotIn(node.id, bound, (name, node.lineno))
                if isinstance(node, ast.arg):
                    self.assertNotIn(node.arg, bound, (name, node.lineno))

    def test_no_file_imports_from_one_that_imports_from_it(self):
        needs = {name: {node.module.split('.')[1] + '.py' for node in ast.walk(ast.parse(text))
                        if isinstance(node, ast.ImportFrom) and node.module.startswith('quietturns.')}
                 for name, text in FILES.items()}
        while needs:
            free = [name for name in needs if not needs[name] & set(needs)]
            self.assertTrue(free, sorted(needs))
            for name in free:
                del needs[name]

    def test_words_that_are_not_used(self):
        for name, text in FILES.items():
            code = ast.unparse(without_docstrings(ast.parse(text)))
            self.assertEqual([word for word in WORDS if re.search(rf'\b{word}\b', code)], [], name)

    def test_methods_of_builtin_values(self):
        own = {node.name for _, node in each(ast.FunctionDef)} | {node.attr for _, node in each(ast.Attribute)
                                                                  if isinstance(node.ctx, ast.Store)}
        for place, node in each(ast.Attribute):
            self.assertIn(node.attr, own | set(METHODS), place)

    def test_is(self):
        for place, node in each(ast.Compare):
            for sign, right in zip(node.ops, node.comparators):
                if isinstance(sign, (ast.Is, ast.IsNot)):
                    self.assertTrue(isinstance(right, ast.Constant) and right.value in (None, True, False), place)

    def test_sets_are_sorted_or_counted_on_the_spot(self):
        calls = [node for _, node in each(ast.Call) if node.args and ast.unparse(node.func) in ('sorted', 'len')]
        taken = [node.args[0] for node in calls]
        places = [(node.lineno, node.col_offset, ast.unparse(node)) for node in taken]
        for place, node in each(ast.Set, ast.SetComp, ast.Call):
            if not isinstance(node, ast.Call) or ast.unparse(node.func) == 'set':
                self.assertIn((node.lineno, node.col_offset, ast.unparse(node)), places, place)

    def test_decorators(self):
        for place, node in each(ast.ClassDef):
            self.assertEqual(node.decorator_list, [], place)
        for place, node in each(ast.FunctionDef):
            for decorator in node.decorator_list:
                self.assertRegex(ast.unparse(decorator), r'^(property|staticmethod|classmethod|\w+\.setter)$', place)

    def test_lists_for_what_compares(self):
        for place, node in each(ast.Call):
            if isinstance(node.func, ast.Name) and node.func.id in TAKES_A_LIST:
                for argument in node.args:
                    self.assertNotIsInstance(argument, ast.GeneratorExp, place)
        for place, node in each(ast.Attribute):
            self.assertNotEqual(node.attr, 'sort', place)

    def test_methods_properties_and_attributes_have_names_of_their_own(self):
        methods, properties = set(), set()
        for place, node in each(ast.ClassDef):
            functions = [part for part in node.body if isinstance(part, ast.FunctionDef)]
            names = [part.name for part in functions]
            self.assertEqual(len(names), len(set(names)), place)
            self.assertEqual(set(names) & stored(node), set(), place)
            methods.update(part.name for part in functions if not is_property(part))
            properties.update(part.name for part in functions if is_property(part))
        everything = set().union(*[stored(ast.parse(text)) for text in FILES.values()])
        self.assertEqual(properties & methods, set())
        self.assertEqual(properties & everything, set())
        for place, node in each(ast.Attribute):
            self.assertIn(node.attr, methods | properties | everything | set(METHODS), place)

    def test_what_is_asked_by_items_is_not_iterated_over(self):
        for place, node in each(ast.ClassDef):
            names = {part.name: part for part in node.body if isinstance(part, ast.FunctionDef)}
            if '__getitem__' in names:
                self.assertIsInstance(names['__iter__'].body[0], ast.Raise, place)

    def test_properties_and_operators_change_nothing(self):
        functions = {}
        for place, node in each(ast.FunctionDef):
            functions.setdefault(node.name, []).append((place, node))
        free = ('__init__', '__setitem__', '__call__', '__enter__', '__exit__', '__iter__')
        waiting = {name for name, found in functions.items() for _, node in found
                   if is_property(node) or name.startswith('__') and name not in free}
        reached = set()
        while waiting - reached:
            name = min(waiting - reached)
            reached.add(name)
            for place, node in functions.get(name, []):
                waiting |= called(node)
                for part in ast.walk(node):
                    self.assertNotIsInstance(part, (ast.Delete, ast.AugAssign), (place, name))
                    if isinstance(part, (ast.Attribute, ast.Subscript)):
                        self.assertIsInstance(part.ctx, ast.Load, (place, name))
        self.assertIn('nexts_known', reached)
        changing = ('append', 'extend', 'insert', 'pop', 'remove', 'clear', 'update', 'setdefault', 'reverse')
        self.assertEqual([name for name in changing if name in reached], [])

    def test_iterated_at_once(self):
        taken = [node.iter for _, node in each(ast.For, ast.comprehension)]
        for _, node in each(ast.Call):
            if ast.unparse(node.func) == 'zip':
                taken += node.args
            elif ast.unparse(node.func) in TAKES_AT_ONCE:
                taken += node.args[:1]
        places = [ast.dump(node, include_attributes=True) for node in taken]
        for place, node in each(ast.Call):
            name = node.func.id if isinstance(node.func, ast.Name) else node.func.attr
            if name in ('zip', 'enumerate', 'reversed', 'range', 'items', 'keys', 'values'):
                self.assertIn(ast.dump(node, include_attributes=True), places, place)

    def test_keywords_of_builtins(self):
        allowed = {'sorted': {'key', 'reverse'}, 'min': {'key', 'default'}, 'max': {'key', 'default'}, 'sum': {'start'},
                   'enumerate': {'start'}}
        for place, node in each(ast.Call):
            name = node.func.id if isinstance(node.func, ast.Name) else ''
            if name in BUILTINS:
                self.assertLessEqual({word.arg for word in node.keywords}, allowed.get(name, set()), place)

    def test_what_leaves_a_block(self):
        for place, node in each(ast.FunctionDef):
            if node.name == '__exit__':
                self.assertEqual([part.arg for part in node.args.args], ['self', 'kind', 'value', 'trace'], place)
                barred = (ast.Call, ast.Subscript, ast.BinOp)
                self.assertEqual([part for part in ast.walk(node) if isinstance(part, barred)], [])

    def test_what_is_asked_as_a_block_is_left(self):
        self.assertEqual(barred_questions(FILES), [])
        for place, node in each(ast.FunctionDef):
            if node.name == '__exit__':
                read = [part.id for row in node.body for part in ast.walk(row) if isinstance(part, ast.Name)]
                self.assertEqual({'value', 'trace'} & set(read), set(), place)

    def test_the_look_for_what_is_asked_as_a_block_is_left(self):
        for_none = ['kind is None', 'kind is not None or self.kept is None', 'not (kind is None and held is not None)',
                    'self.yard.kept is not None']
        plain = ['self.kept', 'held', 'not self.kept', 'kind is not None or not self.kept', 'self.kept == 1',
                 'held != "yes"', 'self.kept < 3 and kind is None', 'self.kept == None']
        never = ['self.kept is True', 'held is not False', 'self.kept == held', '3 <= held', 'self.rows[0]',
                 'held in (1, 2)', 'len(self.rows)', '1 < held < 3', '(kind is None) is None']
        for asked in for_none + plain + never:
            for row in (f'if {asked}: pass', f'if kind is None:\n pass\nelif {asked}: pass',
                        f'if kind is None:\n pass\nelse:\n if {asked}: pass'):
                for alike in ('__eq__', '__len__', 'told'):
                    barred = asked in never or asked in plain and alike != 'told'
                    for files in self.block_ends_with(row, alike):
                        self.assertEqual(bool(barred_questions(files)), barred, files)

    def block_ends_with(self, row, alike):
        """Files with this row in an __exit__, in what one calls, and in a finally, and with such a method elsewhere."""
        def told(name, *rows):
            body = '\n'.join(f'  {part}' for text in rows for part in text.split('\n'))
            return f' def {name}(self, kind, held):\n{body}\n'

        other = {'other.py': 'class Other:\n' + told(alike, 'return 0')}
        for ends in (told('__exit__', row), told('__exit__', 'self.shut()') + told('shut', row),
                     told('told', 'try:\n pass\nfinally:\n ' + row.replace('\n', '\n '))):
            yield other | {'ends.py': 'class Ends:\n' + ends}
        # Elsewhere all may be asked.
        self.assertEqual(barred_questions(other | {'ends.py': 'class Ends:\n' + told('shut', row)}), [])

    def test_errors_that_are_caught_are_own_ones(self):
        for place, node in each(ast.ExceptHandler):
            self.assertEqual(ast.unparse(node.type), 'NetError', place)


if __name__ == '__main__':
    unittest.main()
