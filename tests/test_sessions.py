import inspect
import random
import unittest

from brute import ODD_VALUES
from samples import columns_table
from scripting import CUT, DUAL, Base
from stepping import NO_BASES, RIGHT_COMPOUNDS, RIGHT_SINGLES, WRONG_STEPS, fitting_single
from test_running import tried
from unseenrest import sessions as module
from unseenrest.changes import changed
from unseenrest.errors import DuplicateName, InvalidBases, InvalidStep, NothingLeft, TooMany, UnknownName
from unseenrest.sessions import Session
from unseenrest.structures import Structure

ONE = Structure(["a", "b"], [0, 1, 1, 1, 1, 2, 2, 2], unseen=1)
STEPS = [("extend", "p", ("a",)), DUAL, ("contract", "b"), ("top", "q"), ("rename", "a", "c"), ("delete", "p")]


def behind(structure, steps):
    """The structures from the first one to the one behind all steps."""
    found = [structure]
    for step in steps:
        found.append(changed(found[-1], step))
    return found


class TestDo(Base):
    def check_state(self, session, first, done, undone=()):
        """That a session is in the state behind these steps, with others that were undone, all told first to last."""
        structures = behind(first, done)
        self.assertEqual(session.structure, structures[-1])
        self.assertEqual((session.log(), len(session)), (list(done), len(done)))
        self.assertEqual(session.history(), (len(done), len(undone)))
        self.assertEqual(list(session.walk()), structures)
        self.assertEqual(repr(session), f"Session({len(done)} steps)")
        self.assertIs(bool(session), True)
        self.assertIs(session.busy, False)
        other = session.twin()
        for at in range(len(undone)):
            other.redo()
            self.assertEqual(other.log(), list(done) + list(undone[:at + 1]))
            self.assertEqual(list(other.walk()), behind(first, list(done) + list(undone[:at + 1])))
        self.check_raises(NothingLeft, {}, other.redo)

    def test_a_new_session(self):
        for structure in (ONE, Structure([], [0])):
            session = Session(structure)
            self.assertIs(session.structure, structure)
            self.check_state(session, structure, [])
            self.assertIsNone(session.do())
            self.check_state(session, structure, [])
            self.check_raises(NothingLeft, {}, session.undo)
            self.check_raises(NothingLeft, {}, session.redo)
            self.check_state(session, structure, [])

    def test_steps_of_one_call_and_of_several(self):
        for parts in ([1] * 6, [6], [5, 1], [2, 4], [0, 3, 0, 3]):
            session, at = Session(ONE), 0
            for many in parts:
                self.assertIsNone(session.do(*STEPS[at:at + many]))
                at += many
                self.check_state(session, ONE, STEPS[:at])

    def test_undo_and_redo_until_nothing_is_left(self):
        session = Session(ONE)
        session.do(*STEPS)
        for at in range(len(STEPS) - 1, -1, -1):
            self.assertIsNone(session.undo())
            self.check_state(session, ONE, STEPS[:at], STEPS[at:])
        self.check_raises(NothingLeft, {}, session.undo)
        self.check_state(session, ONE, [], STEPS)
        for at in range(1, len(STEPS) + 1):
            self.assertIsNone(session.redo())
            self.check_state(session, ONE, STEPS[:at], STEPS[at:])
        self.check_raises(NothingLeft, {}, session.redo)
        self.check_state(session, ONE, STEPS)

    def test_a_step_behind_an_undo(self):
        session = Session(ONE)
        session.do(*STEPS)
        session.undo()
        session.undo()
        self.assertIsNone(session.do())
        self.check_state(session, ONE, STEPS[:4], STEPS[4:])
        for error, steps in ((UnknownName, [CUT, ("delete", "z")]), (InvalidStep, [CUT, None])):
            with self.assertRaises(error):
                session.do(*steps)
            self.check_state(session, ONE, STEPS[:4], STEPS[4:])
        session.do(CUT, DUAL)
        self.check_state(session, ONE, STEPS[:4] + [CUT, DUAL])
        self.check_raises(NothingLeft, {}, session.redo)

    def test_drawn_calls(self):
        drawn = random.Random(31)
        for first in drawn.sample(tried(drawn), 25):
            session, done, undone = Session(first), [], []
            for _ in range(20):
                word = drawn.choice(["do", "do", "undo", "redo", "wrong"])
                if word == "do":
                    names, steps = set(session.structure.names()), []
                    for _ in range(drawn.randrange(4)):
                        step, names = fitting_single(drawn, names, True)
                        steps.append(step)
                    try:
                        expected = behind(session.structure, steps)
                    except TooMany as error:
                        self.check_raises(TooMany, {"subject": error.subject}, session.do, *steps)
                        expected, steps = [], []
                    session.do(*steps)
                    if steps:
                        done, undone = done + steps, []
                elif word == "undo" and done:
                    session.undo()
                    done, undone = done[:-1], done[-1:] + undone
                elif word == "redo" and undone:
                    session.redo()
                    done, undone = done + undone[:1], undone[1:]
                elif word == "wrong":
                    self.check_raises(UnknownName, {"name": "zzzz"}, session.do, CUT, ("delete", "zzzz"))
                self.check_state(session, first, done, undone)

    def test_structures_up_to_the_bounds(self):
        twelve = Structure(["a", "b", "c"], columns_table([1, 2, 4, 8, 3, 12, 0, 5, 5, 15, 6, 9]), unseen=9)
        session = Session(twelve)
        session.do(CUT, DUAL, ("truncate", ("a", "b")), ("rename", "a", "z"), ("delete", "z"), ("top", "a"))
        self.check_state(session, twelve, session.log())
        whole = {"subject": "elements", "most": 12}
        self.check_raises(TooMany, whole, session.do, CUT, ("extend", "e", ()))
        self.assertEqual(len(session), 6)


class TestErrors(Base):
    def test_values_that_are_no_such_steps(self):
        for value in WRONG_STEPS + RIGHT_COMPOUNDS:
            for before in ([], [DUAL], [("delete", "zzzz"), DUAL], [DUAL, ("extend", "a", ()), CUT]):
                session = Session(ONE)
                session.do(CUT)
                session.undo()
                self.check_raises(InvalidStep, {"path": (len(before),)}, session.do, *before, value)
                self.check_raises(InvalidStep, {"path": (len(before),)}, session.do, *before, value, None, ())
                self.assertEqual((session.structure, session.history(), session.busy), (ONE, (0, 1), False))

    def test_all_steps_of_the_form_are_taken(self):
        for step in RIGHT_SINGLES:
            session = Session(Structure.free(["a"]))
            try:
                expected = changed(session.structure, step)
            except (UnknownName, DuplicateName) as error:
                self.check_raises(type(error), {"name": error.name}, session.do, DUAL, DUAL, step)
                self.assertEqual(session.history(), (0, 0))
            else:
                session.do(DUAL, DUAL, step)
                self.assertEqual((session.structure, session.log()[-1]), (expected, step))

    def test_errors_of_the_first_step_that_raises_one(self):
        for error, told, steps in (
            (UnknownName, {"name": "z"}, [("delete", "z"), ("contract", "y")]),
            (UnknownName, {"name": "a"}, [("delete", "a"), CUT, ("delete", "a"), ("delete", "z")]),
            (DuplicateName, {"name": "a"}, [CUT, ("extend", "a", ()), ("delete", "z")]),
            (DuplicateName, {"name": "b"}, [("rename", "a", "b")]), (UnknownName, {"name": "c"}, [("truncate", ("a", "c"))]),
            (UnknownName, {"name": "c"}, [("extend", "a", ("c",))]), (DuplicateName, {"name": "p"}, [("top", "p"), ("top", "p")]),
            (UnknownName, {"name": "c"}, [("unite", (("a",), ("c",)))]),
            (TooMany, {"subject": "names", "most": 6}, [("extend", name, ()) for name in "cdefg"]),
        ):
            session = Session(ONE)
            session.do(DUAL)
            session.do(DUAL, CUT)
            session.undo()
            self.check_raises(error, told, session.do, *steps)
            self.assertEqual((session.structure, session.history(), session.log()), (ONE, (2, 1), [DUAL, DUAL]))
            self.assertIs(session.busy, False)

    def test_bases_are_of_the_form_or_not(self):
        for bases, _ in NO_BASES:
            session = Session(ONE)
            self.check_raises(InvalidStep, {"path": (1,)}, session.do, ("delete", "zzzz"), ("unite", bases))
        self.assertFalse(issubclass(InvalidStep, InvalidBases))

    def test_any_values(self):
        session = Session(ONE)
        for value in ODD_VALUES:
            self.check_raises(InvalidStep, {"path": (0,)}, session.do, value)
        self.assertEqual(len(session), 0)


class TestSession(Base):
    def test_returned_lists_are_new(self):
        session = Session(ONE)
        session.do(*STEPS)
        session.log().clear()
        self.assertEqual(session.log(), STEPS)

    def test_two_walks_at_once(self):
        session = Session(ONE)
        session.do(*STEPS[:3])
        structures = behind(ONE, STEPS[:3])
        first, second = session.walk(), session.walk()
        found = [next(first), next(first), next(second), next(first), next(second), next(first)]
        self.assertEqual(found, [structures[at] for at in (0, 1, 0, 2, 1, 3)])
        self.assertEqual(list(second), structures[2:])
        with self.assertRaises(StopIteration):
            next(first)
        self.assertEqual(list(session.walk()), structures)

    def test_a_walk_goes_on_as_it_began(self):
        session = Session(ONE)
        session.do(*STEPS[:3])
        walk = session.walk()
        found = [next(walk)]
        session.undo()
        session.do(CUT)
        self.assertEqual(found + list(walk), behind(ONE, STEPS[:3]))
        self.assertEqual(list(session.walk()), behind(ONE, STEPS[:2] + [CUT]))
        self.assertTrue(inspect.isgenerator(walk))

    def test_twins_go_different_ways(self):
        session = Session(ONE)
        session.do(*STEPS)
        session.undo()
        session.undo()
        twin, third = session.twin(), session.twin()
        self.assertIs(type(twin), Session)
        twin.do(CUT)
        session.undo()
        third.redo()
        self.assertEqual((twin.log(), twin.history()), (STEPS[:4] + [CUT], (5, 0)))
        self.assertEqual((session.log(), session.history()), (STEPS[:3], (3, 3)))
        self.assertEqual((third.log(), third.history()), (STEPS[:5], (5, 1)))
        self.assertEqual(list(twin.walk()), behind(ONE, STEPS[:4] + [CUT]))
        self.assertEqual(list(session.walk()), behind(ONE, STEPS[:3]))
        session.do(DUAL)
        self.assertEqual(third.structure, behind(ONE, STEPS[:5])[-1])
        third.redo()
        self.assertEqual(third.structure, behind(ONE, STEPS)[-1])

    def test_properties_cannot_be_assigned(self):
        for name in ("structure", "busy"):
            with self.assertRaises(AttributeError):
                setattr(Session(ONE), name, ONE)

    def test_parameters(self):
        self.assertEqual(str(inspect.signature(Session)), "(structure)")
        self.assertEqual(str(inspect.signature(Session.do)), "(self, *steps)")
        for name in ("undo", "redo", "history", "log", "walk", "twin"):
            self.assertEqual(str(inspect.signature(getattr(Session, name))), "(self)")
        for name in "do undo redo structure busy history log walk twin __len__ __bool__ __repr__".split():
            self.assertIn(name, vars(Session))
        self.assertEqual(Session(structure=ONE).structure, ONE)
        self.assertEqual(Session.__module__, module.__name__)
        self.assertIs(type(Session(ONE).history()), tuple)


class TestBusy(Base):
    def test_while_steps_are_done(self):
        seen = []
        session = Session(ONE)

        def looked(structure, step):
            seen.append(session.busy)
            if step == CUT:
                raise KeyboardInterrupt()
            return changed(structure, step)

        module.changed = looked
        try:
            session.do(DUAL, DUAL)
            self.assertIs(session.busy, False)
            with self.assertRaises(KeyboardInterrupt):
                session.do(DUAL, CUT)
        finally:
            module.changed = changed
        self.assertEqual((seen, session.busy, len(session)), ([True] * 4, False, 2))


if __name__ == "__main__":
    unittest.main()
