import doctest
import os
import unittest

STRUCTURES = """
>>> from unseenrest.structures import Structure
>>> pair = Structure(['b', 'a'], [0, 1, 1, 1])
>>> [pair.names(), pair.rank('a', 'b'), pair.span('a'), (~pair).table(), repr(pair)]
[['a', 'b'], 1, ['a', 'b'], [0, 1, 1, 1], 'Structure(a b, 0 unseen, rank 1)']
"""
TEXTS = """
>>> from unseenrest.texts import read_steps
>>> read_steps('truncate a b ; repeat 2 ( cut )')
(('truncate', ('a', 'b')), ('repeat', 2, (('cut',),)))
>>> read_steps('cut cut')
Traceback (most recent call last):
unseenrest.errors.InvalidText: 1
"""
README = os.path.join(os.path.dirname(os.path.abspath(__file__)), "..", "README.md")


class TestExamples(unittest.TestCase):
    def check(self, text, name):
        found = doctest.DocTestParser().get_doctest(text, {}, name, name, 0)
        self.assertTrue(found.examples)
        told = []
        runner = doctest.DocTestRunner(verbose=False)
        runner.run(found, out=told.append)
        self.assertEqual("".join(told), "")
        self.assertEqual(runner.failures, 0)

    def test_the_section_on_structures(self):
        self.check(STRUCTURES, "structures")

    def test_point_twenty_one(self):
        self.check(TEXTS, "texts")

    def test_the_readme(self):
        with open(README, encoding="utf-8") as file:
            self.check(file.read(), "README.md")


if __name__ == "__main__":
    unittest.main()
