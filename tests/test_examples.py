import doctest
import os
import unittest

STRUCTURES = """
>>> from unseenrest.structures import Structure
>>> pair = Structure(['b', 'a'], [0, 1, 1, 1])
>>> [pair.names(), pair.rank('a', 'b'), pair.span('a'), (~pair).table(), repr(pair)]
[['a', 'b'], 1, ['a', 'b'], [0, 1, 1, 1], 'Structure(a b, 0 unseen, rank 1)']
"""
TEXTS = """
>>> from unseenrest.texts import read_steps
>>> read_steps('truncate a b ; repeat 2 ( cut )')
(('truncate', ('a', 'b')), ('repeat', 2, (('cut',),)))
>>> read_steps('cut cut')
Traceback (most recent call last):
unseenrest.errors.InvalidText: 1
"""
RUNNING = """
>>> from unseenrest.running import run
>>> from unseenrest.scripts import Script
>>> from unseenrest.structures import Structure
>>> script = Script.read(['a'], 'extend p a ; if rank 2 a p ( delete a ) else ( delete p ; rename a p )')
>>> [script.ends(), script.cuts, len(script), run(script, Structure.free(['a'])).table()]
[['p'], (0, 0), 2, [0, 1]]
"""
FRAMES = """
>>> from unseenrest.frames import Frame, frame_of, frames
>>> from unseenrest.structures import Structure
>>> one, none = Structure.free(['a']), Structure.uniform(['a'], 0)
>>> frame = Frame(one, one, none, gaps=(1, 0), spares=(0, 1))
>>> [frame.unseen, frame.marked, frame.built().full, frame_of(frame.built(), 0) == frame, len(list(frames(['a'])))]
[3, 1, 2, True, 4]
"""
COMPARING = """
>>> from unseenrest.comparing import compare, fewest
>>> from unseenrest.scripts import Script
>>> one, other = Script.read(['a'], 'top p ; delete a'), Script.read(['a'], 'extend p a ; delete a')
>>> paper = compare(one, other)
>>> [paper.told(), paper.frame.gaps, paper.group, paper.ranks(), fewest(one, other), fewest(one, one)]
['parted', (1, 1), ('p',), (1, 0), 1, None]
"""
DESK = """
>>> from unseenrest.desk import Desk
>>> from unseenrest.shelves import Shelf
>>> desk = Desk(Shelf(['a']))
>>> [desk('put far top p ; delete a'), desk('put near extend p a ; delete a'), desk('alike far near'),
... desk('unseen far near'), desk('range far p'), desk('ends far'), desk('show  far')]
['done', 'done', 'differ', '1', '0 1', 'p', 'unknown']
"""
README = os.path.join(os.path.dirname(os.path.abspath(__file__)), "..", "README.md")


class TestExamples(unittest.TestCase):
    def check(self, text, name):
        found = doctest.DocTestParser().get_doctest(text, {}, name, name, 0)
        self.assertTrue(found.examples)
        told = []
        runner = doctest.DocTestRunner(verbose=False)
        runner.run(found, out=told.append)
        self.assertEqual("".join(told), "")
        self.assertEqual(runner.failures, 0)

    def test_the_section_on_structures(self):
        self.check(STRUCTURES, "structures")

    def test_point_twenty_one(self):
        self.check(TEXTS, "texts")

    def test_the_section_on_running(self):
        self.check(RUNNING, "running")

    def test_the_section_on_frames(self):
        self.check(FRAMES, "frames")

    def test_the_section_on_comparing(self):
        self.check(COMPARING, "comparing")

    def test_the_section_on_the_desk(self):
        self.check(DESK, "desk")

    def test_the_readme(self):
        with open(README, encoding="utf-8") as file:
            self.check(file.read(), "README.md")


if __name__ == "__main__":
    unittest.main()
