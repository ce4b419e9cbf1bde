import inspect
import random
import unittest

from scripting import Base
from shelving import TEXTS
from unseenrest import desk as module
from unseenrest.claims import rank_range
from unseenrest.comparing import fewest
from unseenrest.desk import Desk
from unseenrest.errors import Missing, NothingLeft, RestError
from unseenrest.shelves import Shelf

FAR, NEAR = "top p ; delete a", "extend p a ; delete a"
FACT = ("least", ("a",), 1)


def small_shelf():
    shelf = Shelf(["b", "a"])
    shelf.apply(("put", "far", "top p ; delete a ; delete b"), ("put", "near", "extend p a b ; delete a ; delete b"))
    shelf.apply(("put", "same", "use far"), ("put", "nil", ""), ("put", "void", "delete a ; delete b"))
    return shelf


def by_calls(shelf, line):
    """The answer to a line by point 20, made by calls of the shelf and of functions."""
    words = line.split(" ")
    word, rest = words[0], words[1:]
    if "\n" in line or "" in words:
        return "unknown"
    kinds = {
        ("names", 0): lambda: " ".join(shelf.names()) or "none", ("pieces", 0): lambda: " ".join(shelf.pieces()) or "none",
        ("show", 1): lambda: shelf.text(*rest) or "nothing", ("ends", 1): lambda: " ".join(shelf.script(*rest).ends()) or "none",
        ("alike", 2): lambda: {True: "alike", False: "differ"}[shelf.alike(*rest)],
        ("unseen", 2): lambda: few(shelf, *rest), ("drop", 1): lambda: shelf.apply(("drop", rest[0])) or "done",
        ("undo", 0): lambda: shelf.undo() or "done", ("redo", 0): lambda: shelf.redo() or "done",
    }
    if word in ("put", "change") and rest:
        call = lambda: shelf.apply((word, rest[0], " ".join(rest[1:]))) or "done"
    elif word == "range" and rest:
        call = lambda: "%d %d" % rank_range(shelf.script(rest[0]), *rest[1:], facts=shelf.facts())
    else:
        call = kinds.get((word, len(rest)), lambda: "unknown")
    try:
        return call()
    except (RestError, Missing, NothingLeft) as error:
        return f"error {type(error).__name__}"


def few(shelf, one, other):
    many = fewest(shelf.script(one), shelf.script(other), facts=shelf.facts())
    return "alike" if many is None else str(many)


def drawn_line(drawn, pieces):
    """A line of each kind; most of them have an answer of their own."""
    pieces = pieces * 4 + ["far", "near", "x", "X"]
    word = drawn.choice("names pieces show ends alike alike unseen range put put put change change drop undo redo".split())
    rest = {
        "names": [], "pieces": [], "undo": [], "redo": [], "alike": [drawn.choice(pieces), drawn.choice(pieces)],
        "unseen": [drawn.choice(pieces), drawn.choice(pieces)],
    }.get(word, [drawn.choice(pieces)])
    if word == "range":
        rest += [drawn.choice(["a", "a", "p"]) for _ in range(drawn.randrange(3))]
    if word == "put":
        rest = [drawn.choice(["far", "near", "x", "y", "z"])]
    if word in ("put", "change"):
        rest += drawn.choice([[], TEXTS[0:1], TEXTS[1:2], TEXTS[3:4], TEXTS[4:5], [drawn.choice(TEXTS[:14])]])
    odd = drawn.choice([[]] * 12 + [[""], ["far"], ["a\n"], [";"]])
    return " ".join([word] + [part for part in rest if part] + odd)


class TestSay(Base):
    def check(self, desk, pairs):
        for line, answer in pairs:
            found = desk.say(line)
            self.assertEqual((type(found), found), (str, answer), line)

    def test_questions(self):
        desk = Desk(small_shelf())
        self.check(desk, [
            ("names", "a b"), ("pieces", "far near nil same void"), ("show far", "top p ; delete a ; delete b"),
            ("show same", "use far"), ("show nil", "nothing"), ("ends far", "p"), ("ends nil", "a b"), ("ends void", "none"),
            ("alike far same", "alike"), ("alike far near", "differ"), ("alike nil nil", "alike"), ("unseen far near", "1"),
            ("unseen far same", "alike"), ("range far p", "0 1"), ("range far", "0 0"), ("range nil a b", "0 2"), ("range nil b b", "0 1"),
            ("range nil b a b", "0 2"),
        ])
        desk = Desk(Shelf([]))
        self.check(desk, [("names", "none"), ("pieces", "none")])

    def test_orders(self):
        shelf = Shelf(["a"])
        desk = Desk(shelf)
        self.check(desk, [
            ("put far top p ; delete a", "done"), ("put nil", "done"), ("show nil", "nothing"), ("change nil cut", "done"),
            ("show nil", "cut"), ("change nil", "done"), ("drop nil", "done"), ("pieces", "far"), ("undo", "done"), ("undo", "done"),
            ("pieces", "far nil"), ("show nil", "cut"), ("redo", "done"), ("show nil", "nothing"), ("redo", "done"), ("pieces", "far"),
            ("redo", "error NothingLeft"), ("undo", "done"),
        ])
        self.assertEqual((shelf.pieces(), shelf.history()), (["far", "nil"], (4, 1)))

    def test_errors(self):
        shelf = small_shelf()
        desk = Desk(shelf)
        self.check(desk, [
            ("show x", "error UnknownPiece"), ("show 7", "error UnknownPiece"), ("ends FAR", "error UnknownPiece"),
            ("alike x far", "error UnknownPiece"), ("alike far x", "error UnknownPiece"), ("alike far nil", "error UnlikeNames"),
            ("unseen x y", "error UnknownPiece"), ("unseen far nil", "error UnlikeNames"), ("range x a", "error UnknownPiece"),
            ("range far a", "error UnknownName"), ("range far p P", "error UnknownName"), ("range far p ;", "error UnknownName"),
            ("put far", "error DuplicateName"), ("put Far cut", "error InvalidName"), ("put x cut cut", "error InvalidText"),
            ("put x use x", "error Circular"), ("put x delete c", "error UnknownName"), ("put x unite a , b a", "error InvalidText"),
            ("put x unite a , a", "error InvalidStep"), ("put x repeat 4 ( cut )", "error TooMany"), ("put x top a", "error DuplicateName"),
            ("put x if whole ( dual ) else ( )", "error InvalidTurn"), ("put x if whole ( top p ) else ( )", "error UnlikeEnds"),
            ("put x repeat 1 ( repeat 1 ( repeat 1 ( repeat 1 ( use far ) ) ) )", "error InvalidStep"),
            ("put x repeat 1 ( repeat 1 ( repeat 1 ( use nil ) ) )", "done"), ("put y repeat 1 ( use x )", "done"),
            ("put z repeat 1 ( use y )", "error TooDeep"),
            ("change q cut", "error UnknownPiece"), ("change far top p", "done"), ("change far cut ; cut cut", "error InvalidText"),
            ("drop far", "error InUse"), ("drop Q", "error UnknownPiece"), ("redo", "error NothingLeft"), ("put u dual", "done"),
            ("alike u nil", "error UnlikeTurns"), ("change nil delete a", "error InUse"), ("drop y", "done"), ("change nil delete a", "done"),
        ])
        shelf.set_limit(len(shelf))
        self.check(desk, [("put w cut", "error Full")])
        shelf.apply(("facts", ("least", ("a",), 2)))
        self.check(desk, [("range far p", "error NoStructure"), ("alike far near", "error UnlikeNames"), ("unseen near same", "error UnlikeNames")])

    def test_an_error_changes_nothing(self):
        shelf = small_shelf()
        twin = shelf.twin()
        self.check(Desk(shelf), [("put x cut cut", "error InvalidText"), ("drop far", "error InUse"), ("alike far nil", "error UnlikeNames")])
        self.assertTrue(shelf == twin)
        self.assertEqual((shelf.history(), shelf.kept(), shelf.computed), ((2, 0), [], 0))

    def test_lines_that_are_unknown(self):
        shelf = small_shelf()
        desk = Desk(shelf)
        words = ["names", "pieces", "show far", "ends far", "alike far near", "unseen far near", "range far p", "put x cut", "change far cut",
                 "drop void", "undo", "redo", "put x", "range far"]
        for line in words:
            first = line.split(" ")[0]
            for wrong in (f" {line}", f"{line} ", line.replace(" ", "  ") if " " in line else f"{line}  ", f"{line}\n", f"\n{line}",
                          line.upper(), f"x {line}", f"{first}s x", line.replace(" ", "\n", 1) if " " in line else "\n"):
                self.check(desk, [(wrong, "unknown")])
        for line in (
            "", " ", "\n", "names a", "pieces far", "show", "show far near", "ends", "ends far x", "alike", "alike far", "alike far near x",
            "unseen", "unseen far", "unseen far near x", "range", "put", "change", "drop", "drop far near", "undo far", "redo far",
            "facts least 1 a", "facts", "set 3", "limit", "say names", "unknown", "done", "error", "a\nb", "put x cut\n", "put x  cut",
            "put x cut ;  cut", "put  x", "range far  p", "put x\ncut", "0",
        ):
            self.check(desk, [(line, "unknown")])
        self.assertEqual((shelf.history(), shelf.computed), ((2, 0), 0))
        self.assertTrue(shelf == small_shelf())

    def test_pieces_with_the_words_of_lines(self):
        words = ["names", "pieces", "undo", "redo", "drop", "show", "range", "alike"]
        desk = Desk(Shelf(["a"], limit=12))
        self.check(desk, [(f"put {word} extend p ; use undo", "error UnknownPiece") for word in words if word != "undo"])
        self.check(desk, [(f"put {word} delete a", "done") for word in words])
        self.check(desk, [(f"ends {word}", "none") for word in words])
        self.check(desk, [(f"show {word}", "delete a") for word in words])
        self.check(desk, [(f"alike {word} {other}", "alike") for word in words for other in words[:3]])
        self.check(desk, [(f"unseen {word} {other}", "alike") for word in words for other in words[:3]])
        self.check(desk, [(f"change {word} {other}", "error InvalidText") for word in words for other in words])
        self.check(desk, [(f"range {word} {other}", "error UnknownName") for word in words for other in words])
        self.check(desk, [(f"drop {word}", "done") for word in words])
        self.assertEqual(desk.shelf.history(), (16, 0))

    def test_answers_are_kept_by_the_shelf(self):
        shelf = small_shelf()
        desk = Desk(shelf)
        desk("alike far near")
        desk("alike far near")
        desk("unseen far near")
        self.assertEqual((shelf.kept(), shelf.computed), ([("far", "near")], 1))

    def test_the_facts_of_the_shelf(self):
        shelf = Shelf(["a"])
        desk = Desk(shelf)
        self.check(desk, [("put far " + FAR, "done"), ("put near " + NEAR, "done"), ("range far p", "0 1"), ("unseen far near", "1")])
        shelf.apply(("facts", FACT))
        self.check(desk, [("range far p", "1 1"), ("unseen far near", "2"), ("alike far near", "differ")])
        shelf.apply(("facts", ("least", ("a",), 2)))
        self.check(desk, [("unseen far near", "alike"), ("alike far near", "alike"), ("range far", "error NoStructure")])

    def test_drawn_lines(self):
        drawn = random.Random(61)
        answers = {}
        for _ in range(60):
            shelf = Shelf(drawn.choice([[], ["a"], ["a"], ["a"]]))
            other, lines = shelf.twin(), []
            desk = Desk(shelf)
            for _ in range(50):
                line = drawn_line(drawn, other.pieces())
                expected = by_calls(other, line)
                answer = drawn.choice([desk, desk.say])(line)
                lines.append((line, answer))
                self.assertEqual(answer, expected, line)
                word = answer.split(" ")[0]
                answers[word] = answers.get(word, 0) + 1
                self.assertTrue(shelf == other)
                self.assertEqual((shelf.history(), shelf.kept(), shelf.computed), (other.history(), other.kept(), other.computed))
            self.assertEqual((desk.log(), len(desk)), (lines, 50))
        for word in ("alike", "differ", "done", "error", "unknown", "0", "none", "nothing"):
            self.assertGreater(answers[word], 10)


class TestDesk(Base):
    def test_this_very_shelf(self):
        shelf = small_shelf()
        desk, other = Desk(shelf), Desk(shelf)
        self.assertIs(desk.shelf, shelf)
        desk("drop void")
        self.assertEqual(other("pieces"), "far near nil same")
        shelf.undo()
        self.assertEqual(desk("pieces"), "far near nil same void")

    def test_the_log(self):
        desk = Desk(Shelf(["a"]))
        self.assertEqual((desk.log(), len(desk), bool(desk), repr(desk)), ([], 0, True, "Desk(0 lines)"))
        for line in ("names", "show x", "", "put x\n", "put x cut"):
            desk(line)
        pairs = [("names", "a"), ("show x", "error UnknownPiece"), ("", "unknown"), ("put x\n", "unknown"), ("put x cut", "done")]
        self.assertEqual((desk.log(), len(desk), bool(desk), repr(desk)), (pairs, 5, True, "Desk(5 lines)"))
        desk.log().clear()
        self.assertEqual(desk.log(), pairs)
        desk.shelf.undo()
        self.assertEqual(len(desk), 5)

    def test_the_shelf_cannot_be_assigned(self):
        with self.assertRaises(AttributeError):
            Desk(Shelf([])).shelf = Shelf([])

    def test_parameters(self):
        self.assertEqual(str(inspect.signature(Desk)), "(shelf)")
        self.assertEqual(str(inspect.signature(Desk.say)), "(self, line)")
        self.assertEqual(str(inspect.signature(Desk.__call__)), "(self, line)")
        self.assertEqual(str(inspect.signature(Desk.log)), "(self)")
        desk = Desk(shelf=Shelf(["a"]))
        self.assertEqual((desk.say(line="names"), desk(line="pieces")), ("a", "none"))
        for name in ("__init__", "say", "__call__", "shelf", "log", "__len__", "__bool__", "__repr__"):
            self.assertIn(name, vars(Desk))
        self.assertEqual(Desk.__module__, module.__name__)


if __name__ == "__main__":
    unittest.main()
