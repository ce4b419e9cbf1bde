"""What the document promises over the whole program: all names with their parameters, and calls by name."""

import importlib
import inspect
import os
import subprocess
import sys
import unittest

from brute import ODD_VALUES
from samples import columns_table
from scripting import CUT, DUAL, WHOLE, Base
from unseenrest.building import from_bases, from_columns, is_bases
from unseenrest.changes import changed, contracted, cut, deleted, extended, renamed, topped, truncated, united
from unseenrest.claims import exchangeable, needless, rank_range, refuted, surely
from unseenrest.comparing import are_alike, compare, fewest, never_more
from unseenrest.desk import Desk
from unseenrest.errors import InvalidName, InvalidNumber, TooMany, UnlikeNames
from unseenrest.facts import fact_rows, keeps
from unseenrest.frames import Frame, frame_of, frames, led
from unseenrest.names import is_group, is_name, is_number, is_piece
from unseenrest.pages import read_page, write_page
from unseenrest.papers import Alike, Exceeds, Paper, Parted
from unseenrest.running import holds_in, run, trace
from unseenrest.scripts import Script
from unseenrest.sessions import Session
from unseenrest.shelves import Shelf
from unseenrest.structures import Structure, structures
from unseenrest.texts import read_steps, text_of

TOP = os.path.join(os.path.dirname(os.path.abspath(__file__)), "..")
TWELVE = columns_table([1, 2, 4, 8, 3, 12, 0, 5, 5, 15, 6, 9])

# By modules, the parameters of all functions, classes and methods of the interface.
CALLS = {
    "names": "is_name(value) is_piece(value) is_group(value) is_number(value, least, most)",
    "structures": """Structure(names, table, *, unseen=0) Structure.names(self) Structure.table(self)
        Structure.rank(self, *names, marks=()) Structure.span(self, *names, marks=()) Structure.is_loop(self, name)
        Structure.is_bridge(self, name) Structure.behind(self, *marks) Structure.gap(self, *marks) Structure.spare(self, *marks)
        Structure.is_quotient_of(self, other) Structure.free(names) Structure.uniform(names, rank) structures(names)""",
    "building": "is_bases(value) from_bases(names, bases) from_columns(columns, *, modulus=2, unseen=())",
    "changes": """deleted(structure, name) contracted(structure, name) extended(structure, name, *group) topped(structure, name)
        truncated(structure, *group) cut(structure) united(structure, bases) renamed(structure, name, fresh)
        changed(structure, step)""",
    "texts": "text_of(steps) read_steps(text)",
    "scripts": """Script(names, steps=(), *, pieces=None) Script.names(self) Script.ends(self) Script.steps(self) Script.plain(self)
        Script.text(self) Script.without(self, at) Script.swapped(self, at) Script.read(names, text, *, pieces=None)""",
    "running": "holds_in(structure, test) run(script, structure) trace(script, structure)",
    "frames": """Frame(first, middle, last, *, gaps=(0, 0), spares=(0, 0)) Frame.names(self) Frame.built(self) Frame.rank(self, *names)
        Frame.after(self, step) frame_of(structure, *marks) frames(names, *, gap=0, spare=0) led(script, frame)""",
    "facts": "keeps(structure, facts) fact_rows(script, *, facts=(), gap=0, spare=0)",
    "papers": """Paper(one, other) Paper.told(self) Paper.holds(self) Alike(one, other, rows, *, facts=()) Alike.rows(self)
        Alike.facts(self) Alike.told(self) Alike.holds(self) Parted(one, other, frame, group) Parted.ranks(self) Parted.told(self)
        Parted.holds(self) Exceeds(one, other, frame, group) Exceeds.told(self) Exceeds.holds(self)""",
    "comparing": """compare(one, other, *, facts=()) are_alike(one, other, *, facts=()) never_more(one, other, *, facts=())
        fewest(one, other, *, facts=())""",
    "claims": """refuted(script, test, *, facts=()) surely(script, test, *, facts=()) rank_range(script, *names, facts=())
        needless(script, *, facts=()) exchangeable(script, *, facts=())""",
    "sessions": """Session(structure) Session.do(self, *steps) Session.undo(self) Session.redo(self) Session.history(self)
        Session.log(self) Session.walk(self) Session.twin(self)""",
    "shelves": """Shelf(names, *, limit=8) Shelf.names(self) Shelf.pieces(self) Shelf.set_limit(self, value) Shelf.apply(self, *commands)
        Shelf.undo(self) Shelf.redo(self) Shelf.history(self) Shelf.script(self, piece) Shelf.text(self, piece) Shelf.users(self, piece)
        Shelf.facts(self) Shelf.alike(self, one, other) Shelf.kept(self) Shelf.twin(self)""",
    "pages": "write_page(shelf) read_page(text)",
    "desk": "Desk(shelf) Desk.say(self, line) Desk.log(self)",
}
PROPERTIES = {
    Structure: "unseen full", Script: "turned cuts", Frame: "first middle last gaps spares unseen marked", Paper: "one other",
    Parted: "frame group", Session: "structure busy", Shelf: "limit busy computed", Desk: "shelf",
}


class TestInterface(Base):
    def test_all_names_with_their_parameters(self):
        for place, text in CALLS.items():
            module = importlib.import_module(f"unseenrest.{place}")
            for name, parameters in self.entries(text):
                found = module
                for part in name.split("."):
                    self.assertIn(part, vars(found), name)
                    found = getattr(found, part)
                self.assertEqual(str(inspect.signature(found)), parameters, name)
                self.assertEqual(found.__module__, module.__name__, name)

    def entries(self, text):
        """The names with their parameters, in which tuples have brackets, too."""
        text, found, start, depth = " ".join(text.split()), [], 0, 0
        for at, sign in enumerate(text):
            depth += {"(": 1, ")": -1}.get(sign, 0)
            if sign == ")" and depth == 0:
                name, rest = text[start:at + 1].strip().split("(", 1)
                found.append((name, "(" + rest))
                start = at + 1
        return found

    def test_properties_stand_in_their_classes(self):
        for kind, names in PROPERTIES.items():
            for name in names.split():
                self.assertIsInstance(vars(kind)[name], property)

    def test_operators_stand_in_their_classes(self):
        for kind, names in (
            (Structure, "invert add eq contains len repr"), (Script, "add mul eq len repr"), (Frame, "eq repr"), (Paper, "bool repr"),
            (Alike, "bool"), (Session, "len bool repr"), (Shelf, "contains len bool eq repr"), (Desk, "call len bool repr"),
        ):
            for name in names.split():
                self.assertIn(f"__{name}__", vars(kind))

    def test_class_values(self):
        self.assertEqual((Structure.MOST, Script.MOST, Script.LOOKS, Shelf.MOST), (12, 24, 3, 12))
        self.assertEqual((Paper.KIND, Alike.KIND, Parted.KIND, Exceeds.KIND), ("open", "alike", "parted", "exceeds"))

    def test_each_module_can_be_imported_alone(self):
        for place in list(CALLS) + ["errors"]:
            done = subprocess.run(
                [sys.executable, "-B", "-c", f"import unseenrest.{place}"], cwd=TOP, env={**os.environ, "PYTHONPATH": TOP},
                capture_output=True, text=True,
            )
            self.assertEqual((done.returncode, done.stdout, done.stderr), (0, "", ""))


class TestByName(Base):
    def test_names_and_structures(self):
        self.assertEqual((is_name(value="a"), is_piece(value="abcdef"), is_group(value=("a",))), (True, True, True))
        self.assertIs(is_number(value=3, least=1, most=3), True)
        one = Structure(names=["a"], table=[0, 1, 1, 1], unseen=1)
        self.assertEqual((one.rank("a", marks=[0]), one.span(marks=[0]), one.is_loop(name="a"), one.is_bridge(name="a")), (1, ["a"], False, False))
        self.assertIs(one.is_quotient_of(other=one), True)
        self.assertEqual(Structure.uniform(rank=1, names=["a"]), Structure.free(names=["a"]))
        self.assertEqual(len(list(structures(names=["a"]))), 2)

    def test_building_changes_and_texts(self):
        free = Structure.free(["a"])
        self.assertIs(is_bases(value=((),)), True)
        self.assertEqual(from_bases(bases=(("a",),), names=["a"]), free)
        self.assertEqual(from_columns(columns={"a": [1]}, modulus=3, unseen=[[2]]).unseen, 1)
        for call, given in (
            (deleted, {"name": "a"}), (contracted, {"name": "a"}), (extended, {"name": "p"}), (topped, {"name": "p"}), (truncated, {}),
            (cut, {}), (united, {"bases": (("a",),)}), (renamed, {"fresh": "b", "name": "a"}), (changed, {"step": DUAL}),
        ):
            self.assertIsInstance(call(structure=free, **given), Structure)
        self.assertEqual(text_of(steps=read_steps(text="cut ; dual")), "cut ; dual")

    def test_scripts_running_and_frames(self):
        script = Script(names=["a"], steps=(("use", "x"), CUT), pieces={"x": ()})
        self.assertEqual((script.without(at=1), script.swapped(at=0)), (Script(["a"]), Script(["a"], (CUT,))))
        self.assertEqual(Script.read(text="use x", names=["a"], pieces={"x": (CUT,)}).plain(), (CUT,))
        free = Structure.free(["a"])
        self.assertIs(holds_in(test=WHOLE, structure=free), True)
        self.assertEqual(run(structure=free, script=script).full, 0)
        self.assertEqual(list(trace(structure=free, script=script)), [(CUT, Structure.uniform(["a"], 0))])
        frame = Frame(last=free, middle=free, first=free, spares=(0, 0), gaps=(1, 0))
        self.assertEqual(frame.after(step=CUT).gaps, (0, 0))
        self.assertEqual((frame_of(structure=free), led(frame=frame, script=script)), (Frame(free, free, free), frame.after(CUT)))
        self.assertEqual(len(list(frames(spare=1, gap=1, names=[]))), 9)

    def test_facts_papers_comparing_and_claims(self):
        script, facts = Script(["a"], (CUT,)), [("least", ("a",), 1)]
        self.assertIs(keeps(facts=facts, structure=Structure.free(["a"])), True)
        rows = fact_rows(spare=0, gap=1, facts=facts, script=script)
        self.assertIs(Alike(facts=facts, rows=rows, other=script, one=script).holds(), True)
        frame = rows[0][0]
        for kind in (Parted, Exceeds):
            self.assertIs(kind(group=(), frame=frame, other=script, one=script).holds(), False)
        self.assertIs(Paper(other=script, one=script).holds(), False)
        self.assertEqual(compare(facts=facts, other=script, one=script).rows(), rows)
        self.assertIs(are_alike(facts=facts, other=script, one=script), True)
        self.assertIsNone(never_more(facts=facts, other=script, one=script))
        self.assertIsNone(fewest(facts=facts, other=script, one=script))
        self.assertEqual(refuted(facts=facts, test=WHOLE, script=script).gaps[0], 2)
        self.assertIs(surely(facts=facts, test=WHOLE, script=script), False)
        self.assertEqual(rank_range(script, "a", facts=facts), (0, 1))
        self.assertEqual((needless(facts=facts, script=script), exchangeable(facts=facts, script=script)), ([], []))

    def test_sessions_shelves_pages_and_desks(self):
        self.assertEqual(len(Session(structure=Structure.free(["a"]))), 0)
        shelf = Shelf(names=["a"], limit=2)
        shelf.apply(("put", "x", "cut"))
        shelf.set_limit(value=1)
        self.assertEqual((shelf.text(piece="x"), shelf.users(piece="x"), shelf.alike(one="x", other="x")), ("cut", [], True))
        self.assertEqual(read_page(text=write_page(shelf=shelf)).script(piece="x").steps(), (CUT,))
        desk = Desk(shelf=shelf)
        self.assertEqual((desk.say(line="names"), desk(line="show x")), ("a", "cut"))


class TestBounds(Base):
    def test_nine_unseen_elements_and_twelve_elements(self):
        large = Structure(["a", "b", "c"], TWELVE, unseen=9)
        steps = (CUT, ("truncate", ("a", "b")), DUAL, ("delete", "a"), ("top", "p"), ("contract", "b"))
        script = Script(["a", "b", "c"], steps)
        session = Session(large)
        session.do(*steps)
        self.assertEqual(run(script, large), session.structure)
        self.assertEqual([structure for _, structure in trace(script, large)], list(session.walk())[1:])
        marks = (0, 3, 8)
        behind = frame_of(session.structure, *[mark for mark in range(9) if mark not in marks])
        self.assertEqual(led(script, frame_of(large, *marks)), behind)
        self.assertEqual((behind.unseen, behind.marked), (9, 6))
        wider = Script(["a", "b", "c"], (CUT, ("extend", "p", ())))
        self.check_raises(TooMany, {"subject": "elements", "most": 12}, run, wider, large)
        self.assertEqual(frame_of(large, 8, 0).built().unseen, 9)

    def test_two_traces_at_once(self):
        script = Script(["a"], (CUT, DUAL, ("top", "p"), ("delete", "a")))
        one, other = Structure(["a"], [0, 1, 1, 2], unseen=1), Structure.free(["a"])
        expected, others = list(trace(script, one)), list(trace(script, other))
        first, second, third = trace(script, one), trace(script, one), trace(script, other)
        found = [next(first), next(third), next(second), next(first), next(third), next(first), next(second)]
        self.assertEqual(found[0::3][:1] + [found[3], found[5]], expected[:3])
        self.assertEqual([found[2], found[6]] + list(second), expected)
        self.assertEqual([found[1], found[4]] + list(third), others)
        self.assertEqual(list(first), expected[3:])

    def test_two_of_each_other_generator_at_once(self):
        for made in (lambda: structures(["a", "b"]), lambda: frames(["a"], gap=1)):
            expected = list(made())
            first, second = made(), made()
            found = [next(first), next(second), next(first)]
            self.assertEqual(found, [expected[0], expected[0], expected[1]])
            self.assertEqual((list(first), list(second)), (expected[2:], expected[1:]))

    def test_generators_raise_their_errors_at_the_first_item(self):
        free = Structure.free(["b"])
        for made, error in (
            (structures([None]), InvalidName), (frames(["a"], gap=5), InvalidNumber), (trace(Script(["a"]), free), UnlikeNames),
        ):
            with self.assertRaises(error):
                next(made)

    def test_equal_calls_return_equal_results(self):
        one, other = Script.read(["a"], "top p ; delete a"), Script.read(["a"], "extend p a ; delete a")
        for call in (compare, never_more, fewest):
            first, second = call(one, other), call(one, other)
            if call is not fewest:
                first, second = (first.frame, first.group), (second.frame, second.group)
            self.assertEqual(first, second)

    def test_methods_that_do_something_return_none(self):
        shelf, session = Shelf(["a"]), Session(Structure.free(["a"]))
        for call, given in (
            (shelf.apply, [("put", "x", "cut")]), (shelf.undo, []), (shelf.redo, []), (shelf.set_limit, [3]), (session.do, [CUT]),
            (session.undo, []), (session.redo, []), (shelf.apply, []), (session.do, []),
        ):
            self.assertIsNone(call(*given))

    def test_odd_values_are_taken_by_those_that_ask(self):
        shelf = Shelf(["a"])
        for value in ODD_VALUES:
            for call in (is_name, is_piece, is_group, is_bases, lambda some: is_number(some, 0, 9), lambda some: some in shelf):
                self.assertIsInstance(call(value), bool)


if __name__ == "__main__":
    unittest.main()
