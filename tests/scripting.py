"""What the tests of scripts have in common."""

import unittest

from unseenrest.scripts import Script

CUT, DUAL, WHOLE = ("cut",), ("dual",), ("whole",)


def repeat(many, *steps):
    return ("repeat", many, steps)


def both(test, first, second=()):
    return ("if", test, tuple(first), tuple(second))


def deep(many, step):
    """A step that stands so many deep."""
    for _ in range(many - 1):
        step = repeat(1, step)
    return step


class Base(unittest.TestCase):
    def check_raises(self, error, attributes, call, *given, **named):
        with self.assertRaises(error) as caught:
            call(*given, **named)
        self.assertIs(type(caught.exception), error)
        for name, value in attributes.items():
            found = getattr(caught.exception, name)
            self.assertEqual((type(found), found), (type(value), value))

    def check_script(self, error, attributes, names, steps, pieces=None):
        self.check_raises(error, attributes, Script, names, steps, pieces=pieces)
