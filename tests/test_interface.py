"""The interface of the files that are there: names, arguments, and where each of them is defined."""

import inspect
import os
import pathlib
import subprocess
import sys
import unittest
from importlib import import_module

from quietturns.nets import Net
from support import SQUARE

FUNCTIONS = {
    'tables': {'distance': ['net', 'a', 'd'], 'ways': ['net', 'a', 'd'], 'nexts': ['net', 'a', 'd'],
               'alike': ['old', 'new']},
    'judging': {'judged': ['old', 'new'], 'shows_judged': ['old', 'new', 'value']},
    'shifts': {'shifted': ['net', 'a', 'b', 't'], 'point': ['net', 'a', 'b', 'router', 'd'],
               'points': ['net', 'a', 'b'], 'stretch': ['net', 'a', 'b', 'd', 'ring'],
               'free_range': ['net', 'a', 'b']},
    'steps': {'steps': ['net', 'a', 'b', 'start', 'goal'],
              'shows_steps': ['net', 'a', 'b', 'start', 'goal', 'value']},
    'rounds': {'rounds': ['old', 'new'], 'shows_rounds': ['old', 'new', 'value']},
}
# In the order in which the interface lists them: each may need those above it alone.
FILES = ['errors', 'nets', 'tables', 'judging', 'shifts', 'steps', 'rounds', 'loads', 'lines', 'falls', 'wanted',
         'texts', 'yard', 'journals', 'desk']
METHODS = {'__init__': ['self', 'routers', 'links'], 'length': ['self', 'a', 'b'],
           'with_link': ['self', 'a', 'b', 'there', 'back'], 'without': ['self', 'a', 'b']}


def arguments(call):
    """The names of the arguments, all of them without default values."""
    found = inspect.signature(call).parameters.values()
    return [each.name for each in found if each.kind is each.POSITIONAL_OR_KEYWORD and each.default is each.empty]


class Interface(unittest.TestCase):

    def test_functions(self):
        for file, functions in FUNCTIONS.items():
            module = import_module(f'quietturns.{file}')
            for name, names in functions.items():
                with self.subTest(file=file, name=name):
                    call = getattr(module, name)
                    self.assertTrue(inspect.isfunction(call))
                    self.assertEqual(call.__module__, f'quietturns.{file}')
                    self.assertEqual(len(inspect.signature(call).parameters), len(names))
                    self.assertEqual(arguments(call), names)

    def test_each_file_needs_those_above_it_alone(self):
        program = 'import sys; import quietturns.{}; print(" ".join(sys.modules))'
        # Where the package is, which need not be the place of the tests.
        place = pathlib.Path(import_module('quietturns').__file__).parent.parent
        for at, file in enumerate(FILES):
            if file in (*FUNCTIONS, 'errors', 'nets'):
                found = subprocess.run([sys.executable, '-B', '-c', program.format(file)], check=True, text=True,
                                       capture_output=True, env={**os.environ, 'PYTHONPATH': str(place)})
                for other in FILES[at + 1:]:
                    self.assertNotIn(f'quietturns.{other}', found.stdout.split(), file)

    def test_net(self):
        self.assertTrue(inspect.isclass(Net))
        self.assertEqual(Net.__module__, 'quietturns.nets')
        for name, names in METHODS.items():
            with self.subTest(name):
                self.assertTrue(inspect.isfunction(vars(Net)[name]))
                self.assertEqual(len(inspect.signature(vars(Net)[name]).parameters), len(names))
                self.assertEqual(arguments(vars(Net)[name]), names)

    def test_attributes_of_every_net(self):
        for net in (SQUARE, SQUARE.without('a', 'b'), SQUARE.with_link('a', 'c', 1, 1)):
            self.assertIs(net.routers.__class__, tuple)
            self.assertIs(net.links.__class__, tuple)


if __name__ == '__main__':
    unittest.main()
