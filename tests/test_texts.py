import inspect
import random
import unittest

from brute import ODD_VALUES
from stepping import BASES, GROUPS, RIGHT_COMPOUNDS, RIGHT_SINGLES, RIGHT_TESTS, drawn_steps
from unseenrest import texts
from unseenrest.errors import InvalidText
from unseenrest.texts import read_steps, text_of

# Steps and their texts, one of each form at least.
PAIRS = [
    ((), ""),
    ((("delete", "a"),), "delete a"),
    ((("contract", "abcd"),), "contract abcd"),
    ((("dual",),), "dual"),
    ((("extend", "p", ()),), "extend p"),
    ((("extend", "p", ("a", "b")),), "extend p a b"),
    ((("extend", "p", ("p",)),), "extend p p"),
    ((("top", "p"),), "top p"),
    ((("truncate", ()),), "truncate"),
    ((("truncate", ("a", "aa", "b")),), "truncate a aa b"),
    ((("cut",),), "cut"),
    ((("unite", ((),)),), "unite"),
    ((("unite", (("a", "b"),)),), "unite a b"),
    ((("unite", (("a", "b"), ("a", "c"), ("b", "c"))),), "unite a b , a c , b c"),
    ((("unite", (("b",), ("a",))),), "unite b , a"),
    ((("rename", "b", "a"),), "rename b a"),
    ((("rename", "a", "a"),), "rename a a"),
    ((("if", ("whole",), (), ()),), "if whole ( ) else ( )"),
    ((("if", ("rank", (), 0), (("cut",),), ()),), "if rank 0 ( cut ) else ( )"),
    ((("if", ("rank", ("a", "b"), 6), (), (("cut",), ("dual",))),), "if rank 6 a b ( ) else ( cut ; dual )"),
    ((("if", ("spans", ("a",), "b"), (("cut",),), (("dual",),)),), "if spans b a ( cut ) else ( dual )"),
    ((("if", ("spans", (), "b"), (), ()),), "if spans b ( ) else ( )"),
    ((("repeat", 1, ()),), "repeat 1 ( )"),
    ((("repeat", 4, (("cut",), ("top", "p"))),), "repeat 4 ( cut ; top p )"),
    ((("repeat", 2, (("repeat", 3, (("use", "x"),)),)), ("cut",)), "repeat 2 ( repeat 3 ( use x ) ) ; cut"),
    ((("use", "abcdef"),), "use abcdef"),
    ((("use", "use"),), "use use"),
    ((("cut",), ("dual",), ("cut",)), "cut ; dual ; cut"),
    ((("truncate", ()), ("extend", "p", ()), ("unite", ((),)), ("cut",)), "truncate ; extend p ; unite ; cut"),
    # The words of steps and tests may be names as well.
    ((("delete", "if"), ("truncate", ("cut", "else", "top", "use"))), "delete if ; truncate cut else top use"),
    ((("if", ("rank", ("else", "rank"), 1), (), ()),), "if rank 1 else rank ( ) else ( )"),
    ((("if", ("spans", ("if",), "else"), (("delete", "else"),), ()),), "if spans else if ( delete else ) else ( )"),
]
# Groups that are no bases, and steps deeper than a script may have them: neither makes an InvalidText.
READ_ALONE = [
    ((("unite", ((), ())),), "unite ,"),
    ((("unite", (("a",), ())),), "unite a ,"),
    ((("unite", ((), ("a", "b"), ())),), "unite , a b ,"),
    ((("unite", (("a",), ("a",))), ("cut",)), "unite a , a ; cut"),
    ((("unite", (("a", "b"), ("c",), ("b", "d"))),), "unite a b , c , b d"),
    ((("unite", (("a", "b", "c", "d", "e", "f", "g"),)),), "unite a b c d e f g"),
    ((("repeat", 1, (("unite", ((), ())),)),), "repeat 1 ( unite , )"),
]
# Texts and the index of the first word that cannot stand.
WRONG = [
    (" ", 0), ("  ", 0), (" cut", 0), ("cut ", 1), ("cut  ; dual", 1), ("cut ;  dual", 2), ("cut ; ", 2), ("\n", 0),
    ("cut\n", 0), ("cut ;\ndual", 1), ("delete a\n", 1), ("cut ; dual ", 3), ("a", 0), ("Cut", 0), ("none", 0), (";", 0),
    ("; cut", 0), ("cut ; ; cut", 2), (")", 0), ("(", 0), ("( cut )", 0), (",", 0), ("else", 0), ("whole", 0), ("1", 0),
    ("cut cut", 1), ("cut dual", 1), ("cut a", 1), ("dual a", 1), ("cut )", 1), ("cut (", 1), ("cut ,", 1), ("cut else", 1),
    ("delete abcde", 1), ("delete A", 1), ("delete ;", 1), ("delete 1", 1), ("delete  a", 1), ("delete a b", 2),
    ("delete a )", 2), ("contract a1", 1), ("contract a a", 2), ("top P", 1), ("top p p", 2), ("top ;", 1),
    ("rename ; a", 1), ("rename a ;", 2), ("rename a abcde", 2), ("rename abcde 1", 1), ("rename a b c", 3),
    ("rename a  b", 2), ("use abcdefg", 1), ("use A", 1), ("use x y", 2), ("use ;", 1), ("use (", 1),
    ("extend ;", 1), ("extend P", 1), ("extend abcde a", 1), ("extend p b a", 3), ("extend p a a", 3), ("extend p a A", 3),
    ("extend p a abcde", 3), ("extend p a ,", 3), ("extend p  a", 2), ("extend p a )", 3), ("extend p a (", 3),
    ("truncate b a", 2), ("truncate a a", 2), ("truncate a b aa ; cut cut", 3), ("truncate 1", 1), ("truncate ,", 1),
    ("truncate (", 1), ("truncate ;  ", 2), ("truncate abcde", 1), ("truncate aa a", 2),
    ("unite b a", 2), ("unite a , b a", 4), ("unite a a", 2), ("unite a , , b a", 5), ("unite a (", 2), ("unite abcde", 1),
    ("unite a ,b", 2), ("unite a,", 1), ("unite a , )", 3), ("unite ;  ", 2), ("unite )", 1), ("unite 1", 1),
    ("if ( ) else ( )", 1), ("if none ( ) else ( )", 1), ("if  whole", 1), ("if Whole", 1), ("if ;", 1), ("if cut", 1),
    ("if whole a ( ) else ( )", 2), ("if whole 1", 2), ("if whole ;", 2), ("if whole )", 2), ("if whole else ( )", 2),
    ("if whole ( ; ) else ( )", 3), ("if whole ( cut ; ) else ( )", 5), ("if whole ( cut cut ) else ( )", 4),
    ("if whole ( ) ( )", 4), ("if whole ( ) ; cut", 4), ("if whole ( ) else cut", 5), ("if whole ( ) else )", 5),
    ("if whole ( ) else ( ;", 6), ("if whole ( ) else ( ) )", 7), ("if whole ( ) else ( ) else ( )", 7),
    ("if whole ( ( ) ) else ( )", 3), ("if whole ( ) else else", 5), ("if whole ( ) else ( cut else", 7),
    ("if rank ( ) else ( )", 2), ("if rank 7 ( ) else ( )", 2), ("if rank -1", 2), ("if rank 01", 2), ("if rank 10", 2),
    ("if rank a 1", 2), ("if rank  1", 2), ("if rank 1 b a", 4), ("if rank 1 a a (", 4), ("if rank 1 2", 3),
    ("if rank 1 ;", 3), ("if rank 1 )", 3), ("if rank 1 a ,", 4), ("if rank 1 a ; cut", 4), ("if rank 6a", 2),
    ("if spans ( ) else ( )", 2), ("if spans 1", 2), ("if spans abcde", 2), ("if spans a b aa (", 4), ("if spans a ,", 3),
    ("if spans a b b", 4), ("if spans  a", 2),
    ("repeat ( cut )", 1), ("repeat 0 ( cut )", 1), ("repeat 5 ( cut )", 1), ("repeat a ( cut )", 1), ("repeat 02 ( )", 1),
    ("repeat 12 ( )", 1), ("repeat 2 cut", 2), ("repeat 2 2 ( )", 2), ("repeat 2 ; cut", 2), ("repeat 2 )", 2),
    ("repeat 2 ( ; )", 3), ("repeat 2 ( cut ; )", 5), ("repeat 2 ( cut ) cut", 5), ("repeat 2 ( cut ) )", 5),
    ("repeat 2 ( cut ) (", 5), ("repeat 2 ( cut (", 4), ("repeat 2 ( cut , cut )", 4), ("repeat 2 (cut )", 2),
    ("repeat 2 ( cut) ;", 3), ("repeat 2 ( cut  )", 4), ("repeat 2 ( extend p b a )", 6), ("repeat 2 ( ) else", 4),
    ("repeat 2 ( ( cut ) )", 3), ("repeat  2", 1), ("cut ; repeat 9 ( ) ; delete A", 3), ("cut ; delete A ; repeat 9", 3),
]
# Texts that end too early: the index is their number of words.
SHORT = [
    "delete", "contract", "top", "rename", "rename a", "extend", "use", "cut ;", "cut ; dual ;", "if", "if whole",
    "if rank", "if rank 1", "if rank 1 a", "if spans", "if spans a", "if spans a b", "if whole (", "if whole ( cut",
    "if whole ( cut ;", "if whole ( )", "if whole ( cut )", "if whole ( ) else", "if whole ( ) else (",
    "if whole ( ) else ( cut", "if whole ( ) else ( cut ; delete", "repeat", "repeat 2", "repeat 2 (", "repeat 2 ( cut",
    "repeat 2 ( cut ;", "repeat 2 ( repeat 2 ( cut )", "repeat 2 ( truncate", "repeat 2 ( unite ,", "cut ; repeat 1",
]


def nested(many, inner):
    """Brackets in brackets with some words in the innermost, closed again."""
    return " ".join(["repeat 1 ("] * many + [inner] + [")"] * many)


class Base(unittest.TestCase):
    def check_wrong(self, text, word):
        with self.assertRaises(InvalidText) as caught:
            read_steps(text)
        self.assertIs(type(caught.exception), InvalidText)
        self.assertEqual(caught.exception.word, word, text)


class TestTextOf(unittest.TestCase):
    def test_all_kinds_of_steps(self):
        for steps, text in PAIRS + READ_ALONE:
            self.assertEqual(text_of(steps), text)

    def test_each_step_alone_begins_with_its_word(self):
        for step in RIGHT_SINGLES + RIGHT_COMPOUNDS:
            text = text_of((step,))
            self.assertIs(type(text), str)
            self.assertEqual(text.split(" ")[0], step[0])
            self.assertEqual(text_of((step, ("cut",), step)), text + " ; cut ; " + text)


class TestReadSteps(Base):
    def test_all_kinds_of_steps(self):
        for steps, text in PAIRS + READ_ALONE:
            self.assertEqual(repr(read_steps(text)), repr(steps))

    def test_each_step_is_read_back(self):
        for step in RIGHT_SINGLES + RIGHT_COMPOUNDS:
            self.assertEqual(repr(read_steps(text_of((step,)))), repr((step,)))
        for test in RIGHT_TESTS:
            step = ("if", test, (("use", "x"),), ())
            self.assertEqual(repr(read_steps(text_of((step,)))), repr((step,)))
        for value in GROUPS:
            self.assertEqual(read_steps(text_of((("truncate", value),))), (("truncate", value),))
        for value in BASES:
            self.assertEqual(read_steps(text_of((("unite", value),))), (("unite", value),))

    def test_drawn_steps_are_read_back(self):
        drawn = random.Random(21)
        seen = set()
        for _ in range(1500):
            steps = drawn_steps(drawn, drawn.randrange(1, 6))
            text = text_of(steps)
            self.assertEqual(repr(read_steps(text)), repr(steps))
            seen.update(text.split(" "))
        words = "delete contract dual extend top truncate cut unite rename if repeat use rank spans whole else ;"
        for word in words.split():
            self.assertIn(word, seen)

    def test_the_text_without_steps(self):
        self.assertEqual(text_of(()), "")
        self.assertEqual(read_steps(""), ())

    def test_digits_at_their_bounds(self):
        for digit in "1234":
            self.assertEqual(read_steps(f"repeat {digit} ( )"), (("repeat", int(digit), ()),))
        for digit in "0123456":
            self.assertEqual(read_steps(f"if rank {digit} ( ) else ( )"), (("if", ("rank", (), int(digit)), (), ()),))
        for digit in "056789":
            self.check_wrong(f"repeat {digit} ( )", 1)
        for digit in "789":
            self.check_wrong(f"if rank {digit} ( ) else ( )", 2)

    def test_names_of_up_to_four_letters_and_pieces_of_up_to_six(self):
        for many in range(1, 8):
            word = "abcdefg"[:many]
            for text, at, most in (
                ("delete {}", 1, 4), ("contract {}", 1, 4), ("top {}", 1, 4), ("rename {} a", 1, 4), ("rename a {}", 2, 4),
                ("extend {} a", 1, 4), ("extend p a {}", 3, 4), ("truncate a {}", 2, 4), ("unite a , a {}", 4, 4),
                ("if rank 1 {} ( ) else ( )", 3, 4), ("if spans {} ( ) else ( )", 2, 4),
                ("if spans a {} ( ) else ( )", 3, 4), ("use {}", 1, 6),
            ):
                if at > 1 and many == 1 and "rename" not in text:
                    continue
                if many <= most:
                    self.assertEqual(text_of(read_steps(text.format(word))), text.format(word))
                else:
                    self.check_wrong(text.format(word), at)


class TestInvalidText(Base):
    def test_the_first_word_that_cannot_stand(self):
        for text, word in WRONG:
            self.check_wrong(text, word)

    def test_whatever_follows(self):
        for text, word in WRONG:
            for more in ("", " ", " cut", " ; cut", " )", " ( ) else ( )", " \n"):
                self.check_wrong(text + more, word)

    def test_words_ahead_count_too(self):
        for text, word in WRONG:
            self.check_wrong("dual ; " + text, word + 2)
            if text.split(" ")[word] != ")":
                self.check_wrong("repeat 3 ( " + text, word + 3)
                self.check_wrong("if whole ( ) else ( cut ; " + text, word + 8)

    def test_texts_that_end_too_early(self):
        for text in SHORT:
            self.check_wrong(text, len(text.split(" ")))
            self.check_wrong("cut ; " + text, len(text.split(" ")) + 2)
            self.check_wrong("repeat 1 ( " + text, len(text.split(" ")) + 3)

    def test_an_empty_word_can_stand_nowhere(self):
        for steps, text in PAIRS[1:] + READ_ALONE:
            words = text.split(" ")
            for at in range(len(words) + 1):
                self.check_wrong(" ".join(words[:at] + [""] + words[at:]), at)

    def test_no_word_of_another_kind_can_stand_anywhere(self):
        for steps, text in PAIRS[1:] + READ_ALONE:
            words = text.split(" ")
            for at in range(len(words) + 1):
                for word in ("A", "7", "-", "abcdefg", "a1", "((", "'a'", "\n"):
                    self.check_wrong(" ".join(words[:at] + [word] + words[at:]), at)

    def test_a_prefix_ends_too_early_or_is_a_text(self):
        for steps, text in PAIRS + READ_ALONE:
            words = text.split(" ")
            for many in range(1, len(words)):
                part = " ".join(words[:many])
                try:
                    self.assertEqual(text_of(read_steps(part)), part)
                except InvalidText as error:
                    self.assertEqual(error.word, many)

    def test_values_that_are_no_strings(self):
        for value in ODD_VALUES + [["cut"], ("cut",), [["dual"]], b"cut"]:
            if not isinstance(value, str):
                self.check_wrong(value, 0)

    def test_names_need_not_be_known(self):
        self.assertEqual(read_steps("delete a ; delete a ; use none"), (("delete", "a"), ("delete", "a"), ("use", "none")))


class TestBrackets(Base):
    def test_the_twentieth_and_the_twenty_first(self):
        for inner in ("", "cut"):
            for many in (1, 4, 5, 19, 20):
                text = " ".join(nested(many, inner).split())
                steps = read_steps(text)
                self.assertEqual(text_of(steps), text)
            for many in (21, 22, 30):
                self.check_wrong(" ".join(nested(many, inner).split()), 20 * 3 + 2)

    def test_in_both_parts_of_an_if(self):
        # The second bracket of an if may be open beside as many as the first one.
        text = nested(19, "if whole ( ) else ( cut )")
        self.assertEqual(text_of(read_steps(text)), text)
        self.check_wrong(nested(20, "if whole ( ) else ( cut )"), 20 * 3 + 2)
        self.check_wrong(nested(19, "if whole ( ) else ( repeat 1 ( ) )"), 19 * 3 + 8)
        self.check_wrong(nested(19, "if whole ( repeat 1 ( ) ) else ( )"), 19 * 3 + 5)

    def test_closed_ones_do_not_count(self):
        text = " ; ".join([nested(20, "cut")] * 3 + ["repeat 2 ( )"] * 30)
        self.assertEqual(text_of(read_steps(text)), text)

    def test_the_words_that_are_within_the_bracket_count_before_it_is_closed(self):
        self.check_wrong(nested(20, "cut cut"), 61)
        self.check_wrong(nested(20, "cut") + " )", 81)
        self.check_wrong(nested(20, "cut")[:-2], 80)


class TestExamples(Base):
    def test_those_of_the_document(self):
        expected = (("truncate", ("a", "b")), ("repeat", 2, (("cut",),)))
        self.assertEqual(read_steps("truncate a b ; repeat 2 ( cut )"), expected)
        self.check_wrong("cut cut", 1)


class TestInterface(unittest.TestCase):
    def test_parameters(self):
        for name, parameter in (("text_of", "steps"), ("read_steps", "text")):
            function = getattr(texts, name)
            self.assertEqual(function.__module__, "unseenrest.texts")
            found = inspect.signature(function).parameters.values()
            self.assertEqual([(one.name, one.kind) for one in found], [(parameter, inspect.Parameter.POSITIONAL_OR_KEYWORD)])
        self.assertEqual(text_of(steps=(("cut",),)), "cut")
        self.assertEqual(read_steps(text="cut"), (("cut",),))


if __name__ == "__main__":
    unittest.main()
