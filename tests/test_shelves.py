import inspect
import random
import unittest

from brute import ODD_VALUES
from checking import Wrong, plain_of
from shelving import FACTS, TEXTS, WRONG_COMMANDS, Model, drawn_command, uses
from scripting import CUT, Base
from test_facts import WRONG as NO_FACTS
from unseenrest import commands as worker
from unseenrest import errors
from unseenrest import shelves as module
from unseenrest.comparing import are_alike
from unseenrest.errors import Circular, DuplicateName, Full, InUse, InvalidCommand, InvalidFact, InvalidLimit
from unseenrest.errors import InvalidName, InvalidNumber, InvalidStep, InvalidText, InvalidTurn, Missing, NothingLeft, RestError
from unseenrest.errors import TooDeep, TooMany, UnknownName, UnknownPiece, UnlikeEnds, UnlikeNames, UnlikeTurns
from unseenrest.scripts import Script
from unseenrest.shelves import Shelf
from unseenrest.texts import read_steps, text_of

TWELVE = ["a", "b", "c", "d", "e", "f", "g", "h", "i", "j", "k", "l"]
FAR, NEAR = "top p ; delete a", "extend p a ; delete a"
# For each error of a script its attributes and a text with it, beside a piece x that does "cut".
SCRIPT_ERRORS = [
    (InvalidStep, {"path": (0,)}, "unite a , b c"), (InvalidStep, {"path": (0, 0, 0, 0, 0)}, TEXTS[15]),
    (UnknownPiece, {"piece": "nobody"}, "use x ; use nobody ; delete b"), (Circular, {"piece": "new"}, "cut ; use new"),
    (TooMany, {"subject": "steps", "most": 24}, "repeat 4 ( repeat 4 ( use x ) ) ; truncate ; truncate ; truncate ; truncate"),
    (TooMany, {"subject": "looks", "most": 3}, "repeat 4 ( use x ) ; delete b"),
    (InvalidTurn, {"path": (1, 0)}, "delete b ; if whole ( dual ) else ( )"),
    (UnknownName, {"name": "b"}, "delete b"), (DuplicateName, {"name": "a"}, "top a"),
    (TooMany, {"subject": "names", "most": 6}, " ; ".join(f"extend {name}" for name in "bcdefg")),
    (UnlikeEnds, {"path": (0,)}, "if whole ( delete a ) else ( )"),
]


def shelf_with(*commands, names=("a",), limit=8):
    shelf = Shelf(names, limit=limit)
    for command in commands:
        shelf.apply(command)
    return shelf


def state_of(shelf):
    """All that a shelf tells of its state."""
    return [
        shelf.names(), shelf.limit, [(piece, shelf.text(piece)) for piece in shelf.pieces()], shelf.facts(), shelf.history(),
        shelf.kept(), shelf.computed, shelf.busy,
    ]


class ShelfBase(Base):
    def check_fails(self, shelf, error, told, *commands):
        """That a call of apply raises an error and changes nothing."""
        before, twin = state_of(shelf), shelf.twin()
        self.check_raises(error, told, shelf.apply, *commands)
        self.assertEqual(state_of(shelf), before)
        self.assertTrue(shelf == twin)

    def check_model(self, shelf, model):
        self.assertEqual(shelf.names(), model.names)
        self.assertEqual(shelf.pieces(), sorted(model.pieces))
        self.assertEqual((len(shelf), shelf.facts(), shelf.limit), (len(model.pieces), model.facts, model.limit))
        self.assertEqual(shelf.history(), (model.at, len(model.states) - 1 - model.at))
        self.assertEqual((shelf.kept(), shelf.computed), (sorted(model.answers), model.computed))
        self.assertIs(shelf.busy, False)
        for piece, steps in model.pieces.items():
            script = shelf.script(piece)
            self.assertEqual((script.names(), script.steps(), script.text()), (model.names, steps, shelf.text(piece)))
            self.assertEqual((script.plain(), read_steps(shelf.text(piece))), (plain_of(steps, model.pieces), steps))
            self.assertEqual(shelf.users(piece), [user for user in sorted(model.pieces) if piece in uses(model.pieces[user])])


class TestDrawn(ShelfBase):
    def test_against_the_model(self):
        drawn = random.Random(41)
        met = {}
        for _ in range(150):
            names = drawn.choice([[], ["a"], ["a"], ["a"], ["b", "a"]])
            limit = drawn.choice([2, 3, 8])
            shelf, model = Shelf(names, limit=limit), Model(names, limit)
            for _ in range(40):
                word, told, given = self.drawn_call(drawn, model)
                try:
                    found = getattr(model, word)(*given) if told is None else told()
                except Wrong as error:
                    met[error.told[0]] = met.get(error.told[0], 0) + 1
                    kind = getattr(errors, error.told[0])
                    with self.assertRaises(kind) as caught:
                        getattr(shelf, word)(*given)
                    self.assertEqual([getattr(caught.exception, key) for key in self.keys_of(kind)], list(error.told[1:]))
                else:
                    self.assertEqual(getattr(shelf, word)(*given), found)
                self.check_model(shelf, model)
        for name in "InvalidName DuplicateName Full InvalidText UnknownPiece InUse InvalidFact Circular UnlikeNames".split():
            self.assertGreater(met[name], 3, name)

    def drawn_call(self, drawn, model):
        word = drawn.choice(["apply"] * 8 + ["undo", "redo", "alike", "alike", "alike"])
        if word == "apply":
            return word, None, [drawn_command(drawn, model) for _ in range(drawn.choice([0, 1, 1, 1, 1, 2, 2, 5, 6]))]
        if word != "alike":
            return word, None, []
        pieces = sorted(model.pieces) * 5
        one, other = drawn.choice(pieces + ["nobody"]), drawn.choice(pieces + [["x"]])
        return word, lambda: self.asked(model, one, other), [one, other]

    def asked(self, model, one, other):
        """What the model answers to the question alike."""
        for piece in (one, other):
            if not isinstance(piece, str) or piece not in model.pieces:
                raise Wrong("UnknownPiece", piece)
        if (one, other) not in model.answers:
            first, second = (Script(model.names, model.pieces[piece], pieces=model.pieces) for piece in (one, other))
            try:
                model.answers[one, other] = are_alike(first, second, facts=model.facts)
            except (UnlikeNames, UnlikeTurns) as error:
                raise Wrong(error.code) from None
            model.computed += 1
        return model.answers[one, other]

    def keys_of(self, kind):
        return [key for key in inspect.signature(kind).parameters if key not in ("args", "kwargs")]


class TestConstructor(ShelfBase):
    def test_a_new_shelf(self):
        for names in ([], ["a"], ("c", "b", "a")):
            shelf = Shelf(names)
            self.assertEqual(state_of(shelf), [sorted(names), 8, [], [], (0, 0), [], 0, False])
            self.assertEqual((shelf.pieces(), len(shelf), bool(shelf)), ([], 0, True))
            self.check_raises(NothingLeft, {}, shelf.undo)
            self.check_raises(NothingLeft, {}, shelf.redo)
        self.assertEqual((Shelf.MOST, Shelf([]).MOST), (12, 12))

    def test_wrong_names(self):
        for limit in (8, 0, None):
            for value in [value for value in ODD_VALUES if value != "a"]:
                self.check_raises(InvalidName, {"value": value}, Shelf, ["a", value, "a", None], limit=limit)
            self.check_raises(DuplicateName, {"name": "a"}, Shelf, ["b", "a", "a", "b"], limit=limit)
            self.check_raises(TooMany, {"subject": "names", "most": 3}, Shelf, ["a", "b", "c", "d"], limit=limit)
            for value in [value for value in ODD_VALUES if not isinstance(value, (list, tuple))]:
                self.check_raises(InvalidName, {"value": value}, Shelf, value, limit=limit)

    def test_the_limit(self):
        for limit in range(1, 13):
            self.assertEqual(Shelf(["a"], limit=limit).limit, limit)
        for value in [value for value in ODD_VALUES if type(value) is not int or not 1 <= value <= 12] + [13, 0, -5]:
            self.check_raises(InvalidLimit, {"value": value}, Shelf, ["a"], limit=value)

    def test_names_are_copied_and_new(self):
        names = ["b", "a"]
        shelf = Shelf(names)
        names.append("c")
        shelf.names().append("d")
        self.assertEqual(shelf.names(), ["a", "b"])

    def test_parameters(self):
        for call, text in (
            (Shelf, "(names, *, limit=8)"), (Shelf.set_limit, "(self, value)"), (Shelf.apply, "(self, *commands)"),
            (Shelf.script, "(self, piece)"), (Shelf.text, "(self, piece)"), (Shelf.users, "(self, piece)"),
            (Shelf.alike, "(self, one, other)"),
        ):
            self.assertEqual(str(inspect.signature(call)), text)
        for name in "undo redo history names pieces facts kept twin".split():
            self.assertEqual(str(inspect.signature(getattr(Shelf, name))), "(self)")
        for name in (
            "MOST names pieces limit set_limit apply undo redo history busy script text users facts alike kept computed "
            "__contains__ __len__ __bool__ __eq__ __repr__ twin"
        ).split():
            self.assertIn(name, vars(Shelf))
        self.assertEqual(Shelf.__module__, module.__name__)
        shelf = Shelf(limit=3, names=["a"])
        shelf.apply(("put", "x", "cut"))
        shelf.set_limit(value=2)
        self.assertEqual((shelf.text(piece="x"), shelf.users(piece="x"), shelf.script(piece="x").steps()), ("cut", [], (CUT,)))
        self.assertIs(shelf.alike(other="x", one="x"), True)
        self.assertEqual(shelf.limit, 2)

    def test_properties_cannot_be_assigned(self):
        for name in ("busy", "computed"):
            with self.assertRaises(AttributeError):
                setattr(Shelf([]), name, 0)


class TestLimit(ShelfBase):
    def assign(self, shelf, value):
        shelf.limit = value

    def test_assigned_and_set(self):
        for set_it in (self.assign, Shelf.set_limit):
            shelf = shelf_with(("put", "x", "cut"), ("put", "y", ""), ("put", "z", "use x"))
            for limit in list(range(3, 13)) + [3]:
                self.assertIsNone(set_it(shelf, limit))
                self.assertEqual((shelf.limit, shelf.history()), (limit, (3, 0)))
            for value in [value for value in ODD_VALUES if type(value) is not int or not 3 <= value <= 12] + [1, 2, 13]:
                self.check_raises(InvalidLimit, {"value": value}, set_it, shelf, value)
                self.assertEqual(shelf.limit, 3)

    def test_it_is_no_part_of_the_steps(self):
        shelf = shelf_with(("put", "x", "cut"), ("put", "y", ""), limit=2)
        self.check_fails(shelf, Full, {"limit": 2}, ("put", "z", "cut"))
        shelf.undo()
        shelf.set_limit(1)
        self.assertEqual(shelf.history(), (1, 1))
        # Redo does not look at the limit; put does.
        shelf.redo()
        self.assertEqual((shelf.pieces(), shelf.limit), (["x", "y"], 1))
        self.check_fails(shelf, Full, {"limit": 1}, ("put", "z", "cut"))
        for value in (1, 13, 0):
            self.check_raises(InvalidLimit, {"value": value}, shelf.set_limit, value)
        shelf.apply(("change", "x", "truncate"))
        self.assertEqual((shelf.limit, len(shelf)), (1, 2))
        shelf.set_limit(3)
        shelf.undo()
        shelf.undo()
        shelf.undo()
        self.assertEqual((shelf.limit, shelf.pieces()), (3, []))
        shelf.redo()
        shelf.redo()
        shelf.redo()
        shelf.apply(("put", "z", ""))
        self.assertEqual((shelf.limit, len(shelf)), (3, 3))

    def test_undo_does_not_look_at_it(self):
        shelf = shelf_with(("put", "x", "cut"), ("put", "y", ""), ("drop", "x"), ("drop", "y"), limit=2)
        shelf.limit = 1
        shelf.undo()
        shelf.undo()
        self.assertEqual((len(shelf), shelf.limit), (2, 1))
        self.check_raises(InvalidLimit, {"value": 1}, shelf.set_limit, 1)

    def test_the_thirteenth_piece(self):
        shelf = Shelf(["a"], limit=12)
        shelf.apply(*[("put", piece, "") for piece in TWELVE])
        self.check_fails(shelf, Full, {"limit": 12}, ("put", "m", ""))
        self.check_fails(shelf, Full, {"limit": 12}, ("drop", "a"), ("put", "a", ""), ("put", "m", "cut cut"))
        shelf.apply(("drop", "a"), ("put", "m", ""))
        self.assertEqual(shelf.pieces(), TWELVE[1:] + ["m"])
        self.check_raises(InvalidLimit, {"value": 11}, shelf.set_limit, 11)
        self.check_fails(Shelf(["a"]), Full, {"limit": 8}, *[("put", piece, "") for piece in TWELVE])


class TestApply(ShelfBase):
    def test_values_that_are_no_commands(self):
        shelf = shelf_with(("put", "x", "cut"))
        for value in ODD_VALUES + WRONG_COMMANDS:
            for before in ([], [("drop", "x")], [("put", None, None), ("drop", "nobody"), ("facts", None)]):
                self.check_fails(shelf, InvalidCommand, {"at": len(before)}, *before, value)
                self.check_fails(shelf, InvalidCommand, {"at": len(before)}, *before, value, None, ("drop", "x"))

    def test_a_call_without_commands(self):
        shelf = shelf_with(("put", "x", "cut"), ("put", "y", "cut"))
        shelf.undo()
        shelf.alike("x", "x")
        before = state_of(shelf)
        self.assertIsNone(shelf.apply())
        self.assertEqual(state_of(shelf), before)
        shelf.redo()
        self.assertEqual(shelf.pieces(), ["x", "y"])

    def test_the_commands_of_a_call_are_one_step(self):
        shelf = Shelf(["a"])
        self.assertIsNone(shelf.apply(
            ("put", "x", "cut"), ("put", "y", "use x"), ("change", "x", "truncate a"), ("facts", FACTS[0]), ("put", "z", "use y"),
            ("change", "y", "use x ; use x"),
        ))
        self.assertEqual((shelf.history(), shelf.pieces(), shelf.text("y")), ((1, 0), ["x", "y", "z"], "use x ; use x"))
        shelf.apply(("drop", "z"), ("drop", "y"), ("drop", "x"), ("facts",), ("put", "x", ""))
        self.assertEqual((shelf.history(), shelf.pieces(), shelf.facts()), ((2, 0), ["x"], []))
        self.assertIsNone(shelf.undo())
        self.assertEqual((shelf.history(), shelf.pieces(), shelf.facts()), ((1, 1), ["x", "y", "z"], [FACTS[0]]))
        self.assertEqual(shelf.script("z").plain(), read_steps("truncate a ; truncate a"))
        shelf.undo()
        self.assertEqual((shelf.history(), shelf.pieces(), shelf.facts()), ((0, 2), [], []))
        self.assertIsNone(shelf.redo())
        shelf.redo()
        self.assertEqual((shelf.history(), shelf.pieces()), ((2, 0), ["x"]))
        self.check_raises(NothingLeft, {}, shelf.redo)

    def test_an_error_behind_other_commands(self):
        shelf = shelf_with(("put", "x", "cut"), ("put", "y", "use x"))
        shelf.alike("x", "y")
        shelf.undo()
        for error, told, command in (
            (UnknownPiece, {"piece": "y"}, ("drop", "y")), (InvalidText, {"word": 1}, ("change", "x", "cut cut")),
            (InvalidFact, {"at": 1}, ("facts", FACTS[0], None)), (DuplicateName, {"name": "new"}, ("put", "new", None)),
        ):
            self.check_fails(
                shelf, error, told, ("put", "new", "use x"), ("facts", FACTS[1]), ("change", "x", ""), command, ("drop", "nobody"),
            )
        self.assertEqual(shelf.history(), (1, 1))

    def test_redo_until_another_step_is_made(self):
        shelf = shelf_with(("put", "x", "cut"), ("put", "y", "use x"), ("facts", FACTS[0]))
        shelf.undo()
        shelf.undo()
        self.check_fails(shelf, UnknownPiece, {"piece": "y"}, ("drop", "y"))
        self.assertEqual(shelf.history(), (1, 2))
        shelf.apply(("facts",))
        self.assertEqual((shelf.history(), shelf.pieces(), shelf.facts()), ((2, 0), ["x"], []))
        self.check_raises(NothingLeft, {}, shelf.redo)

    def test_put(self):
        shelf = shelf_with(("put", "x", "cut"), limit=1)
        for value in ODD_VALUES + ["Far", "far1", "abcdefg", ("x",)]:
            if value not in ("a", "abcde"):
                self.check_fails(shelf, InvalidName, {"value": value}, ("put", value, None))
        self.check_fails(shelf, DuplicateName, {"name": "x"}, ("put", "x", None))
        self.check_fails(shelf, Full, {"limit": 1}, ("put", "y", None))
        shelf.set_limit(2)
        for value in [value for value in ODD_VALUES if value != ""]:
            self.check_fails(shelf, InvalidText, {"word": 0}, ("put", "new", value))
        self.check_fails(shelf, InvalidText, {"word": 4}, ("put", "new", "delete b ; delete"))
        for error, told, text in SCRIPT_ERRORS:
            self.check_fails(shelf, error, told, ("put", "new", text))
        shelf.apply(("put", "new", "use x ; top p"))
        self.assertEqual((shelf.text("new"), shelf.script("new").ends()), ("use x ; top p", ["a", "p"]))

    def test_too_deep_by_a_piece(self):
        shelf = shelf_with(("put", "x", "repeat 1 ( repeat 1 ( cut ) )"))
        self.check_fails(shelf, TooDeep, {"most": 4}, ("put", "new", "repeat 1 ( repeat 1 ( use x ) )"))
        shelf.apply(("put", "new", "repeat 1 ( use x )"))

    def test_change(self):
        shelf = shelf_with(("put", "x", "cut"), ("put", "new", "truncate"))
        for value in ODD_VALUES + ["nobody", "y"]:
            self.check_fails(shelf, UnknownPiece, {"piece": value}, ("change", value, None))
        for value in [value for value in ODD_VALUES if value != ""]:
            self.check_fails(shelf, InvalidText, {"word": 0}, ("change", "new", value))
        for error, told, text in SCRIPT_ERRORS:
            self.check_fails(shelf, error, told, ("change", "new", text))
        shelf.apply(("change", "new", "use x ; top p"))
        self.assertEqual((shelf.text("new"), shelf.text("x"), shelf.history()), ("use x ; top p", "cut", (3, 0)))

    def test_a_piece_that_is_used_by_others_changed(self):
        shelf = shelf_with(
            ("put", "x", "cut"), ("put", "c", "use x ; truncate a"), ("put", "b", "use c ; delete a"), ("put", "d", "use x ; top p"),
            ("put", "a", "truncate a"),
        )
        for text, user in (
            ("delete a", "b"), ("top p", "d"), ("cut ; cut ; cut", "d"), ("rename a e ; rename e f", "b"),
            ("repeat 4 ( repeat 4 ( truncate a ) )", None), ("repeat 4 ( truncate ) ; cut ; cut", None),
        ):
            if user is None:
                shelf.apply(("change", "x", text))
                self.assertEqual(shelf.text("x"), text)
                shelf.undo()
            else:
                self.check_fails(shelf, InUse, {"piece": "x", "user": user}, ("change", "x", text))
        # The errors of the piece itself come first.
        self.check_fails(shelf, Circular, {"piece": "b"}, ("change", "x", "use b"))
        self.check_fails(shelf, UnknownName, {"name": "e"}, ("change", "x", "delete e"))
        self.check_fails(shelf, InvalidText, {"word": 0}, ("change", "x", "nothing"))
        self.check_fails(shelf, Circular, {"piece": "x"}, ("change", "x", "use x"))
        shelf.apply(("drop", "b"), ("change", "c", "cut"), ("change", "d", ""), ("change", "x", "delete a"))
        self.assertEqual(shelf.script("x").ends(), [])

    def test_a_user_in_another_user_alone(self):
        shelf = shelf_with(("put", "x", "cut"), ("put", "y", "use x"), ("put", "b", "use y ; top p"))
        self.check_fails(shelf, InUse, {"piece": "x", "user": "b"}, ("change", "x", "top p ; cut"))
        self.check_fails(shelf, InUse, {"piece": "y", "user": "b"}, ("drop", "y"))
        self.check_fails(shelf, InUse, {"piece": "x", "user": "y"}, ("drop", "x"))

    def test_drop(self):
        shelf = shelf_with(
            ("put", "x", "cut"), ("put", "y", "use x"), ("put", "b", "repeat 2 ( truncate ; use x )"), ("put", "z", "use b"),
        )
        for value in ODD_VALUES + ["nobody"]:
            self.check_fails(shelf, UnknownPiece, {"piece": value}, ("drop", value))
        self.check_fails(shelf, InUse, {"piece": "x", "user": "b"}, ("drop", "x"))
        self.check_fails(shelf, InUse, {"piece": "b", "user": "z"}, ("drop", "b"))
        shelf.apply(("drop", "z"), ("drop", "b"))
        self.check_fails(shelf, InUse, {"piece": "x", "user": "y"}, ("drop", "x"))
        shelf.apply(("drop", "y"))
        shelf.apply(("drop", "x"))
        self.assertEqual((shelf.pieces(), shelf.history()), ([], (7, 0)))

    def test_facts(self):
        shelf = Shelf(["a", "b"])
        self.assertEqual(shelf.facts(), [])
        shelf.apply(("facts",) + tuple(FACTS))
        self.assertEqual(shelf.facts(), FACTS)
        shelf.facts().clear()
        self.assertEqual(shelf.facts(), FACTS)
        for value in NO_FACTS:
            self.check_fails(shelf, InvalidFact, {"at": 0}, ("facts", value))
            self.check_fails(shelf, InvalidFact, {"at": 2}, ("facts", FACTS[0], FACTS[0], value, None))
        shelf.apply(("facts", FACTS[1], FACTS[1]))
        self.assertEqual(shelf.facts(), [FACTS[1], FACTS[1]])
        shelf.apply(("facts",))
        self.assertEqual((shelf.facts(), shelf.history()), ([], (3, 0)))
        shelf.undo()
        shelf.undo()
        self.assertEqual(shelf.facts(), FACTS)

    def test_steps_that_change_nothing_are_steps(self):
        shelf = shelf_with(("put", "x", "cut"))
        shelf.apply(("change", "x", "cut"))
        shelf.apply(("facts",))
        shelf.apply(("put", "y", ""), ("drop", "y"))
        self.assertEqual(shelf.history(), (4, 0))


class TestQuestions(ShelfBase):
    def test_unknown_pieces(self):
        shelf = shelf_with(("put", "x", "cut"))
        for value in ODD_VALUES + ["nobody", "y"]:
            for call in (shelf.script, shelf.text, shelf.users):
                self.check_raises(UnknownPiece, {"piece": value}, call, value)
            for other in (None, "x", "nobody", ["x"]):
                self.check_raises(UnknownPiece, {"piece": value}, shelf.alike, value, other)
            self.check_raises(UnknownPiece, {"piece": value}, shelf.alike, "x", value)
        self.assertEqual((shelf.kept(), shelf.computed), ([], 0))

    def test_scripts(self):
        shelf = shelf_with(("put", "x", "cut"), ("put", "y", "use x ; repeat 2 ( use x )"))
        script = shelf.script("y")
        self.assertEqual(script, Script(["a"], (CUT, ("repeat", 2, (CUT,)))))
        self.assertEqual(script.steps(), (("use", "x"), ("repeat", 2, (("use", "x"),))))
        self.assertEqual(script.without(1).plain(), (CUT,))
        self.assertEqual((shelf.text("y"), text_of(script.steps())), ("use x ; repeat 2 ( use x )",) * 2)
        shelf.apply(("change", "x", ""))
        self.assertEqual((shelf.script("y").plain(), script.plain()), ((("repeat", 2, ()),), (CUT, ("repeat", 2, (CUT,)))))

    def test_users(self):
        shelf = shelf_with(
            ("put", "x", ""), ("put", "z", "use x"), ("put", "b", "repeat 2 ( repeat 1 ( use x ) )"), ("put", "y", "use z"),
            ("put", "c", "if whole ( ) else ( use x )"), ("put", "d", "if whole ( use x ; use z ) else ( )"),
        )
        self.assertEqual(shelf.users("x"), ["b", "c", "d", "z"])
        self.assertEqual((shelf.users("z"), shelf.users("y")), (["d", "y"], []))
        shelf.users("x").clear()
        self.assertEqual(shelf.users("x"), ["b", "c", "d", "z"])

    def test_in_and_the_length(self):
        shelf = shelf_with(("put", "x", ""), ("put", "far", "use x"))
        for value in ODD_VALUES + ["y", {}, shelf]:
            self.assertIs(value in shelf, False)
        self.assertIs("x" in shelf, True)
        self.assertIs("far" in shelf, True)
        self.assertEqual(len(shelf), 2)
        shelf.undo()
        self.assertIs("far" in shelf, False)
        self.assertEqual(len(shelf), 1)
        shelf.undo()
        self.assertIs(bool(shelf), True)

    def test_the_repr(self):
        self.assertEqual(repr(Shelf([])), "Shelf(-: 0 pieces)")
        self.assertEqual(repr(shelf_with(("put", "x", ""), names=["b", "a"])), "Shelf(a b: 1 pieces)")

    def test_pieces_are_ascending_and_new(self):
        shelf = shelf_with(("put", "z", ""), ("put", "x", ""), ("put", "abc", ""))
        shelf.pieces().clear()
        self.assertEqual(shelf.pieces(), ["abc", "x", "z"])

    def test_equal(self):
        shelf = shelf_with(("put", "x", "cut"), ("put", "y", "use x"), ("facts", FACTS[0], FACTS[1]))
        same = shelf_with(
            ("facts", FACTS[0], FACTS[1]), ("put", "x", ""), ("put", "y", "use x"), ("change", "x", "cut"), limit=3,
        )
        same.alike("x", "y")
        self.assertTrue(shelf == same)
        self.assertFalse(shelf != same)
        for command in (
            ("put", "z", ""), ("drop", "y"), ("change", "x", "truncate"), ("change", "y", "cut"), ("facts",),
            ("facts", FACTS[1], FACTS[0]), ("facts", FACTS[0]),
        ):
            other = shelf.twin()
            other.apply(command)
            self.assertFalse(shelf == other, command)
            self.assertTrue(shelf != other)
            other.undo()
            self.assertTrue(shelf == other)
        self.assertFalse(Shelf(["a"]) == Shelf(["b"]))
        self.assertFalse(Shelf([]) == Shelf(["b"]))
        for value in ODD_VALUES + [repr(shelf), Shelf, shelf.script("x"), shelf.pieces()]:
            self.assertIs(shelf == value, False)
            self.assertIs(shelf != value, True)


class TestAnswers(ShelfBase):
    def setUp(self):
        self.shelf = shelf_with(("put", "far", FAR), ("put", "near", NEAR), ("put", "same", "use far"), ("put", "cut", "cut"))
        self.calls = []

        def counted(one, other, *, facts=()):
            self.calls.append((one.text(), other.text()))
            return are_alike(one, other, facts=facts)

        module.are_alike = counted

    def tearDown(self):
        module.are_alike = are_alike

    def check(self, kept, computed):
        self.assertEqual((self.shelf.kept(), self.shelf.computed, len(self.calls)), (kept, computed, computed))

    def test_kept_in_the_order_in_which_they_were_asked(self):
        self.check([], 0)
        self.assertIs(self.shelf.alike("near", "far"), False)
        self.check([("near", "far")], 1)
        self.assertIs(self.shelf.alike("near", "far"), False)
        self.check([("near", "far")], 1)
        self.assertIs(self.shelf.alike("far", "near"), False)
        self.assertIs(self.shelf.alike("far", "same"), True)
        self.assertIs(self.shelf.alike("cut", "cut"), True)
        pairs = [("cut", "cut"), ("far", "near"), ("far", "same"), ("near", "far")]
        self.check(pairs, 4)
        self.shelf.kept().clear()
        self.check(pairs, 4)
        self.assertIs(self.shelf.alike("far", "same"), True)
        self.check(pairs, 4)

    def test_an_error_is_not_counted(self):
        for one, other, error in (
            ("far", "cut", UnlikeNames), ("cut", "far", UnlikeNames), ("far", "no", UnknownPiece), (None, "far", UnknownPiece),
        ):
            with self.assertRaises(error):
                self.shelf.alike(one, other)
            self.assertEqual((self.shelf.kept(), self.shelf.computed), ([], 0))
        self.shelf.apply(("put", "dual", "dual"))
        self.check_raises(UnlikeTurns, {}, self.shelf.alike, "cut", "dual")
        self.check_raises(UnlikeTurns, {}, self.shelf.alike, "dual", "cut")
        self.assertEqual((self.shelf.kept(), self.shelf.computed), ([], 0))

    def test_kept_over_calls_that_leave_both_scripts(self):
        self.shelf.alike("far", "same")
        self.shelf.alike("cut", "cut")
        kept = [("cut", "cut"), ("far", "same")]
        for commands in (
            [("put", "x", "use far")], [("drop", "near")], [("change", "x", "cut")], [("facts",)], [("change", "same", FAR)],
            [("drop", "same"), ("put", "same", "use far")], [("change", "far", "cut"), ("change", "far", FAR)], [],
            [("facts", FACTS[0]), ("facts",)], [("change", "cut", "repeat 1 ( cut )"), ("change", "cut", "cut")],
        ):
            self.shelf.apply(*commands)
            self.check(kept, 2)
        while self.shelf.history()[0] > 4:
            self.shelf.undo()
            self.check(kept, 2)
        while self.shelf.history()[1]:
            self.shelf.redo()
            self.check(kept, 2)

    def test_dropped_with_a_script(self):
        for command, left in (
            (("change", "far", NEAR), [("cut", "cut")]), (("change", "same", "use near"), [("cut", "cut")]),
            (("drop", "same"), [("cut", "cut")]), (("change", "cut", ""), [("far", "same")]),
            (("change", "far", "top p ; repeat 1 ( delete a )"), [("cut", "cut")]),
        ):
            self.setUp()
            self.shelf.alike("far", "same")
            self.shelf.alike("cut", "cut")
            self.shelf.apply(command)
            self.check(left, 2)
            self.shelf.undo()
            self.check(left, 2)
            self.shelf.redo()
            self.check(left, 2)
            self.shelf.undo()
            self.assertIs(self.shelf.alike("far", "same"), True)
            self.assertIs(self.shelf.alike("cut", "cut"), True)
            self.check([("cut", "cut"), ("far", "same")], 3)

    def test_dropped_with_a_piece_that_is_used(self):
        self.shelf.alike("same", "near")
        self.shelf.apply(("change", "far", NEAR))
        self.check([], 1)
        self.assertIs(self.shelf.alike("same", "near"), True)
        self.check([("same", "near")], 2)
        self.shelf.undo()
        self.check([], 2)
        self.assertIs(self.shelf.alike("same", "near"), False)

    def test_dropped_with_the_facts(self):
        self.shelf.apply(("facts", FACTS[0], FACTS[2]))
        self.shelf.alike("far", "near")
        for command, kept in (
            (("facts", FACTS[0], FACTS[2]), True), (("facts", FACTS[2], FACTS[0]), False), (("facts",), False),
            (("facts", FACTS[0]), False), (("facts", FACTS[0], FACTS[2], FACTS[2]), False),
        ):
            twin = self.shelf.twin()
            self.shelf.apply(command)
            self.assertEqual(self.shelf.kept(), [("far", "near")] if kept else [])
            self.shelf = twin

    def test_dropped_by_undo_and_redo(self):
        self.shelf.apply(("facts", FACTS[1]))
        self.shelf.alike("far", "near")
        self.shelf.undo()
        self.check([], 1)
        self.shelf.alike("far", "near")
        self.shelf.alike("same", "near")
        self.check([("far", "near"), ("same", "near")], 3)
        self.shelf.redo()
        self.check([], 3)
        for _ in range(3):
            self.shelf.undo()
        self.shelf.alike("near", "near")
        self.shelf.undo()
        self.check([], 4)

    def test_answers_under_facts(self):
        self.assertIs(self.shelf.alike("far", "near"), False)
        self.shelf.apply(("facts", ("least", ("a",), 2)))
        self.assertIs(self.shelf.alike("far", "near"), True)
        self.shelf.apply(("facts", FACTS[0]))
        self.assertIs(self.shelf.alike("far", "near"), False)

    def test_a_call_that_raises_an_error_drops_nothing(self):
        self.shelf.alike("far", "near")
        self.check_fails(self.shelf, UnknownPiece, {"piece": "x"}, ("change", "far", ""), ("facts", FACTS[0]), ("drop", "x"))
        self.check([("far", "near")], 1)
        for call in (self.shelf.redo, lambda: self.shelf.apply(None), lambda: self.shelf.set_limit(0)):
            with self.assertRaises((NothingLeft, RestError)):
                call()
            self.check([("far", "near")], 1)
        self.shelf.set_limit(12)
        self.check([("far", "near")], 1)


class TestTwins(ShelfBase):
    def test_twins_go_different_ways(self):
        shelf = shelf_with(("put", "x", "cut"), ("put", "y", "use x"), ("facts", FACTS[2]), limit=5)
        shelf.alike("x", "y")
        shelf.undo()
        shelf.alike("y", "x")
        twin, third = shelf.twin(), shelf.twin()
        self.assertIs(type(twin), Shelf)
        before = state_of(shelf)
        self.assertEqual((state_of(twin), twin == shelf), (before, True))
        self.assertEqual(before[4:7], [(2, 1), [("y", "x")], 2])
        twin.apply(("drop", "y"), ("put", "z", ""))
        twin.set_limit(3)
        twin.alike("z", "x")
        self.assertEqual((state_of(shelf), state_of(third)), (before, before))
        self.assertEqual((twin.history(), twin.kept(), twin.computed, twin.limit), ((3, 0), [("z", "x")], 3, 3))
        shelf.redo()
        self.assertEqual(state_of(third), before)
        self.assertEqual((shelf.facts(), shelf.kept()), ([FACTS[2]], []))
        third.undo()
        third.undo()
        self.assertEqual((len(shelf), len(third), twin.pieces()), (2, 0, ["x", "z"]))
        self.check_raises(InvalidNumber, {"value": None}, shelf.script("x").without, None)

    def test_a_twin_beyond_its_limit(self):
        shelf = shelf_with(("put", "x", ""), ("put", "y", ""))
        shelf.undo()
        shelf.set_limit(1)
        shelf.redo()
        twin = shelf.twin()
        self.assertEqual((twin.limit, len(twin), state_of(twin)), (1, 2, state_of(shelf)))


class TestBusy(ShelfBase):
    def test_while_commands_are_done(self):
        seen = []
        shelf = Shelf(["a"])
        made = worker.Script

        def looked(*given, **named):
            seen.append(shelf.busy)
            if len(seen) == 3:
                raise KeyboardInterrupt()
            return made(*given, **named)

        worker.Script = looked
        try:
            shelf.apply(("put", "x", ""))
            self.assertIs(shelf.busy, False)
            with self.assertRaises(KeyboardInterrupt):
                shelf.apply(("put", "y", ""), ("put", "z", ""))
        finally:
            worker.Script = made
        self.assertEqual((seen, shelf.busy, shelf.pieces(), shelf.history()), ([True] * 3, False, ["x"], (1, 0)))

    def test_it_is_false_behind_errors(self):
        shelf = Shelf(["a"])
        for commands in ([None], [("put", None, None)], [("put", "x", "cut"), ("drop", "y")]):
            with self.assertRaises((RestError, Missing)):
                shelf.apply(*commands)
            self.assertIs(shelf.busy, False)
        for call in (shelf.undo, shelf.redo):
            with self.assertRaises(NothingLeft):
                call()
            self.assertIs(shelf.busy, False)


if __name__ == "__main__":
    unittest.main()
