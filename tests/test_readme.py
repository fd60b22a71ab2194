"""What README.md shows is what the program does."""

import doctest
import pathlib
import unittest

README = pathlib.Path(__file__).parent.parent / 'README.md'


class Readme(unittest.TestCase):

    def test_the_examples(self):
        # Without the fences, which would be taken for what is printed.
        text = README.read_text(encoding='utf-8').replace('```', '')
        test = doctest.DocTestParser().get_doctest(text, {}, 'README.md', None, 0)
        self.assertGreater(len(test.examples), 3)
        self.assertEqual(doctest.DocTestRunner().run(test).failed, 0)


if __name__ == '__main__':
    unittest.main()
