"""The interface of the files that are there: names, arguments, and where each of them is defined."""

import inspect
import os
import pathlib
import subprocess
import sys
import unittest
from importlib import import_module

from quietturns.desk import Desk
from quietturns.lines import Line
from quietturns.nets import Net
from quietturns.yard import Yard
from support import SQUARE

FUNCTIONS = {
    'tables': {'distance': ['net', 'a', 'd'], 'ways': ['net', 'a', 'd'], 'nexts': ['net', 'a', 'd'],
               'alike': ['old', 'new']},
    'judging': {'judged': ['old', 'new'], 'shows_judged': ['old', 'new', 'value']},
    'shifts': {'shifted': ['net', 'a', 'b', 't'], 'point': ['net', 'a', 'b', 'router', 'd'],
               'points': ['net', 'a', 'b'], 'stretch': ['net', 'a', 'b', 'd', 'ring'],
               'free_range': ['net', 'a', 'b']},
    'steps': {'steps': ['net', 'a', 'b', 'start', 'goal'],
              'shows_steps': ['net', 'a', 'b', 'start', 'goal', 'value']},
    'rounds': {'rounds': ['old', 'new'], 'shows_rounds': ['old', 'new', 'value']},
    'loads': {'loads': ['net', 'demands'], 'moment_loads': ['old', 'new', 'moment', 'demands'],
              'worst': ['old', 'new', 'demands']},
    'falls': {'falls': ['net'], 'losers': ['net', 'a', 'b'], 'alternates': ['net', 'a', 'b'],
              'way_back': ['net', 'a', 'b', 'end', 'd', 'neighbour']},
    'wanted': {'wanted': ['net', 'rows'], 'shows_wanted': ['net', 'rows', 'value']},
    'texts': {'show_net': ['net'], 'read_net': ['text'], 'show_run': ['run'], 'read_run': ['text']},
    'journals': {'read_journal': ['text']},
}
# In the order in which the interface lists them: each may need those above it alone.
FILES = ['errors', 'nets', 'tables', 'judging', 'shifts', 'steps', 'rounds', 'loads', 'lines', 'falls', 'wanted',
         'texts', 'yard', 'journals', 'desk']
# For each class its file, and its methods with their arguments; with = those that have a default value, behind * those
# that are passed by name.
CLASSES = {
    Net: ('nets', {'__init__': 'self routers links', 'length': 'self a b', 'with_link': 'self a b there back',
                   'without': 'self a b', '__eq__': 'self other'}),
    Line: ('lines', {'__init__': 'self net rates', 'at': 'self t', 'classes': 'self goal',
                     'steps': 'self goal demands=() caps=()', 'shows_steps': 'self goal value demands=() caps=()',
                     'cheapest': 'self goal offers demands=() caps=()',
                     'shows_cheapest': 'self goal offers value demands=() caps=()', '__eq__': 'self other'}),
    Yard: ('yard', {'__init__': 'self net * strict=False', 'do': 'self event', 'known': 'self router', 'told': 'self',
                    'back': 'self', 'copy': 'self', 'trial': 'self * keep=False', 'tried': 'self look * keep=False',
                    '__call__': 'self router d', '__eq__': 'self other', '__contains__': 'self x',
                    '__getitem__': 'self at', '__setitem__': 'self at worth'}),
    Desk: ('desk', {'__init__': 'self text', 'say': 'self line'}),
}
ATTRIBUTES = {
    Net: {'routers': tuple, 'links': tuple}, Line: {'net': Net, 'rates': tuple},
    Yard: {'now': tuple, 'events': tuple, 'net': Net, 'many': int, 'turned': tuple, 'lost': tuple, 'arrived': tuple,
           'journal': str},
    Desk: {'yard': Yard},
}


def arguments(call):
    """The names of the arguments, all of them without default values."""
    found = inspect.signature(call).parameters.values()
    return [each.name for each in found if each.kind is each.POSITIONAL_OR_KEYWORD and each.default is each.empty]


def written(call):
    """The arguments as in the table."""
    words = []
    for each in inspect.signature(call).parameters.values():
        if each.kind is each.KEYWORD_ONLY and '*' not in words:
            words.append('*')
        words.append(each.name if each.default is each.empty else f'{each.name}={each.default!r}')
    return ' '.join(words)


class Interface(unittest.TestCase):

    def test_functions(self):
        for file, functions in FUNCTIONS.items():
            module = import_module(f'quietturns.{file}')
            for name, names in functions.items():
                with self.subTest(file=file, name=name):
                    call = getattr(module, name)
                    self.assertTrue(inspect.isfunction(call))
                    self.assertEqual(call.__module__, f'quietturns.{file}')
                    self.assertEqual(len(inspect.signature(call).parameters), len(names))
                    self.assertEqual(arguments(call), names)

    def test_each_file_needs_those_above_it_alone(self):
        program = 'import sys; import quietturns.{}; print(" ".join(sys.modules))'
        # Where the package is, which need not be the place of the tests.
        place = pathlib.Path(import_module('quietturns').__file__).parent.parent
        for at, file in enumerate(FILES):
            found = subprocess.run([sys.executable, '-B', '-c', program.format(file)], check=True, text=True,
                                   capture_output=True, env={**os.environ, 'PYTHONPATH': str(place)})
            for other in FILES[at + 1:]:
                self.assertNotIn(f'quietturns.{other}', found.stdout.split(), file)

    def test_classes(self):
        for kind, (file, methods) in CLASSES.items():
            self.assertTrue(inspect.isclass(kind))
            self.assertEqual(kind.__module__, f'quietturns.{file}')
            for name, words in methods.items():
                with self.subTest(file=file, name=name):
                    self.assertTrue(inspect.isfunction(vars(kind)[name]))
                    self.assertEqual(written(vars(kind)[name]), words)

    def test_attributes_of_every_object(self):
        yard, empty = Yard(SQUARE), Net(('a', 'b'), ())
        for event in (('out', 'c', 'd'), ('learn', 'b'), ('send', 'a', 'd')):
            yard.do(event)
        objects = [SQUARE, empty, SQUARE.without('a', 'b'), SQUARE.with_link('a', 'c', 1, 1),
                   Line(SQUARE, (('a', 'b', 1),)), Yard(empty), Yard(SQUARE, strict=True), yard, yard.copy(),
                   Desk(yard.journal), Desk(yard.journal).yard]
        for each in objects:
            for name, kind in ATTRIBUTES[each.__class__].items():
                with self.subTest(each.__class__, name=name):
                    self.assertIs(getattr(each, name).__class__, kind)

    def test_a_yard_is_not_iterated_over(self):
        for call in (list, tuple, iter):
            with self.assertRaises(TypeError):
                call(Yard(SQUARE))


if __name__ == '__main__':
    unittest.main()
