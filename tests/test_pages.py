import inspect
import random
import re
import unittest

from brute import ODD_VALUES
from checking import Wrong, checked
from scripting import Base
from shelving import FACTS, TEXTS, Model, drawn_command
from stepping import drawn_steps
from unseenrest import pages as module
from unseenrest.errors import InvalidPage, InvalidText
from unseenrest.pages import read_page, write_page
from unseenrest.shelves import Shelf
from unseenrest.texts import read_steps, text_of

PAGE = "names a b\nfact least 1 a\nfact most 6\nfact least 0 a b\nfact most 2 b\nfar = top p ; delete a\nnear =\nuser = use far\n"


def rising(words):
    return all(one < other for one, other in zip(words, words[1:]))


def readable(text):
    try:
        return text_of(read_steps(text)) == text
    except InvalidText:
        return False


def wrong_line(text):
    """The line of the error of a text by point 19, or None for a page."""
    lines = re.findall("[^\n]*\n|[^\n]+$", text)
    names, pieces, places = [], {}, {}
    for at, line in enumerate(lines):
        whole = re.fullmatch("(.*)\n", line)
        if whole is None:
            return at
        line = whole.group(1)
        if at == 0:
            names = line.split(" ")[1:]
            if not re.fullmatch("names( [a-z]{1,4}){0,3}", line) or not rising(names):
                return at
            continue
        fact = re.fullmatch("fact (?:least|most) [0-6]((?: [a-z]{1,4})*)", line)
        piece = re.fullmatch("([a-z]{1,6}) =(?: (.+))?", line)
        if fact and not pieces and set(fact.group(1).split()) <= set(names) and rising(fact.group(1).split()):
            continue
        if not piece or not readable(piece.group(2) or "") or piece.group(1) <= max(pieces, default="") or len(pieces) == 12:
            return at
        pieces[piece.group(1)] = read_steps(piece.group(2) or "")
        places[piece.group(1)] = at
    if not lines:
        return 0
    for piece in pieces:
        try:
            checked(names, pieces[piece], pieces)
        except Wrong:
            return places[piece]
    return None


def drawn_shelf(drawn):
    names = drawn.choice([[], ["a"], ["b", "a"], ["zzzz", "a", "b"]])
    shelf, model = Shelf(names, limit=12), Model(names, 12)
    for _ in range(drawn.randrange(14)):
        command = drawn_command(drawn, model)
        try:
            model.apply(command)
        except Wrong:
            continue
        shelf.apply(command)
    if drawn.choice([True, False]):
        for piece in drawn.sample("bdfhjlnpr", min(drawn.randrange(10), 12 - len(shelf))):
            shelf.apply(("put", piece, drawn.choice(["", "cut", "top p", "truncate"])))
    return shelf


def drawn_lines(drawn):
    """A line that may stand in some page, or in none."""
    piece, text = drawn.choice(["a", "far", "fact", "names", "x", "zz", "abcdef"]), drawn.choice(TEXTS)
    return drawn.choice([
        f"{piece} = {text}", f"{piece} =", f"{piece} = ", f"{piece} =  {text}", f"{piece}= {text}", "names", "names a", "names b a",
        f"fact least {drawn.randrange(8)} a", "fact most 3 a b", "fact most 1 b a", "fact least 1", "fact least 1 ", "fact least", "",
        " ", f"{piece}", "=", f"{piece} = {text} ", f"{piece} = {text_of(drawn_steps(drawn, 3))}", "fact Least 1 a", "fact rank 1 a",
    ])


def mutated(drawn, page):
    """A page that is changed somewhere."""
    lines = page.split("\n")[:-1]
    at, other = drawn.randrange(len(lines)), drawn.randrange(len(lines))
    kind = drawn.randrange(8)
    if kind == 0:
        return page[:drawn.randrange(len(page))]
    if kind == 1:
        lines.insert(at, lines[other])
    elif kind == 2:
        lines[at], lines[other] = lines[other], lines[at]
    elif kind == 3:
        del lines[at]
    elif kind == 4:
        lines.insert(at + 1, drawn_lines(drawn))
    elif kind == 5:
        lines[at] = drawn_lines(drawn)
    else:
        place = drawn.randrange(len(page))
        return page[:place] + drawn.choice(["", "a", " ", "\n", "9", "=", "z", ";"]) + page[place + drawn.randrange(2):]
    return "".join(line + "\n" for line in lines)


class TestWrite(Base):
    def test_the_lines(self):
        shelf = Shelf(["b", "a"])
        self.assertEqual(write_page(shelf), "names a b\n")
        self.assertEqual(write_page(Shelf([])), "names\n")
        shelf.apply(
            ("put", "near", ""), ("put", "far", "top p ; delete a"), ("put", "user", "use far"),
            ("facts", FACTS[0], FACTS[3], ("least", ("a", "b"), 0), ("most", ("b",), 2)),
        )
        self.assertEqual(write_page(shelf), PAGE)
        self.assertEqual(write_page(shelf=shelf), PAGE)

    def test_the_shelf_stays(self):
        shelf = read_page(PAGE)
        shelf.alike("far", "user")
        shelf.apply(("drop", "near"))
        shelf.undo()
        write_page(shelf)
        self.assertEqual((shelf.history(), shelf.kept(), shelf.computed), ((0, 1), [("far", "user")], 1))


class TestRead(Base):
    def test_what_is_read(self):
        shelf = read_page(PAGE)
        self.assertIs(type(shelf), Shelf)
        self.assertEqual((shelf.names(), shelf.pieces(), shelf.limit), (["a", "b"], ["far", "near", "user"], 12))
        self.assertEqual(shelf.facts(), [FACTS[0], FACTS[3], ("least", ("a", "b"), 0), ("most", ("b",), 2)])
        self.assertEqual((shelf.text("far"), shelf.text("near"), shelf.text("user")), ("top p ; delete a", "", "use far"))
        self.assertEqual((shelf.history(), shelf.kept(), shelf.computed, shelf.busy), ((0, 0), [], 0, False))
        self.assertEqual(read_page(text=PAGE), shelf)
        shelf.apply(("put", "new", "cut"))
        shelf.undo()
        self.assertEqual((write_page(shelf), shelf.history()), (PAGE, (0, 1)))

    def test_drawn_shelves(self):
        drawn = random.Random(51)
        sizes = []
        for _ in range(250):
            shelf = drawn_shelf(drawn)
            sizes.append(len(shelf))
            page = write_page(shelf)
            found = read_page(page)
            self.assertTrue(found == shelf)
            self.assertEqual((write_page(found), found.limit, found.history(), found.kept()), (page, 12, (0, 0), []))
            self.assertIsNone(wrong_line(page))
        self.assertGreater(max(sizes), 9)

    def test_changed_pages(self):
        drawn = random.Random(52)
        lines, pages = {}, 0
        for _ in range(5000):
            text = mutated(drawn, write_page(drawn_shelf(drawn)))
            if drawn.choice([True, False, False]) and text:
                text = mutated(drawn, text + "\n" if "\n" not in text else text)
            expected = wrong_line(text)
            if expected is None:
                pages += 1
                self.assertEqual(write_page(read_page(text)), text)
            else:
                lines[expected] = lines.get(expected, 0) + 1
                self.check_raises(InvalidPage, {"line": expected}, read_page, text)
        self.assertGreater(pages, 200)
        self.assertGreater(len(lines), 6)

    def test_a_page_cut_anywhere(self):
        for many in range(len(PAGE)):
            text = PAGE[:many]
            if text.endswith("\n") and many > 0:
                self.assertEqual(write_page(read_page(text)), text)
            else:
                self.check_raises(InvalidPage, {"line": text.count("\n")}, read_page, text)

    def test_values_that_are_no_pages(self):
        for value in ODD_VALUES + [b"names\n", PAGE.split("\n"), "\n", "\n" + PAGE, " ", "names", " names\n", "Names\n", "name\n"]:
            self.check_raises(InvalidPage, {"line": 0}, read_page, value)

    def check_line(self, line, *lines):
        text = "".join(one + "\n" for one in lines)
        self.assertEqual(wrong_line(text), line)
        if line is None:
            self.assertEqual(write_page(read_page(text)), text)
        else:
            self.check_raises(InvalidPage, {"line": line}, read_page, text)

    def test_the_line_of_the_names(self):
        for line in ("names", "names a", "names a b", "names a aa zzzz"):
            self.check_line(None, line)
        for line in ("names ", "names  a", "names a ", " names a", "names b a", "names a a", "names a b c d", "names abcde", "names A",
                     "names a,b", "fact least 0", "x =", "names = cut", "", "names 0"):
            self.check_line(0, line)
            self.check_line(0, line, "x = cut cut", "")
        self.check_line(1, "names a", "names a")
        self.check_line(2, "names a", "x =", "names a")

    def test_lines_of_facts(self):
        for line in ("fact least 0", "fact most 6 a", "fact least 3 a b", "fact most 1 b"):
            self.check_line(None, "names a b", line)
            self.check_line(None, "names a b", line, line, line, "x =")
            self.check_line(2, "names a b", "x =", line)
        for line in ("fact", "fact least", "fact most a", "fact least 7", "fact least -1", "fact least 10", "fact least 01 a",
                     "fact least 1 c", "fact least 1 b a", "fact least 1 a a", "fact least 1 a ", "fact  least 1 a", "fact least  1",
                     "fact least 1  a", "fact Most 1 a", "fact whole 1 a", "least 1 a", "facts least 1 a", "fact least a 1",
                     "fact least 1 a , b", " fact least 1 a", "fact least + a", "fact = 1", "fact = 1 a"):
            self.check_line(1, "names a b", line)
            self.check_line(2, "names a b", "fact least 0", line, "x = cut cut")
        self.check_line(1, "names", "fact least 1 a")
        self.check_line(None, "names", "fact least 1")

    def test_lines_of_pieces(self):
        for line in ("x =", "x = cut", "fact = cut", "names = cut", "abcdef = truncate", "x = unite", "x = repeat 2 ( )"):
            self.check_line(None, "names a", line)
            self.check_line(None, "names a", "fact least 0", line)
        for line in ("x", "x = ", "x =  cut", "x = cut ", "x  = cut", " x = cut", "x = = cut", "x == cut", "x= cut", "x =cut", "= cut", "X = cut",
                     "abcdefg = cut", "x1 = cut", "x y = cut", "x = cut cut", "x = cut ;", "x = ; cut", "x = truncate b a", "x = none",
                     "x = repeat 5 ( )", "x = if whole ( ) else ( ) ", "", " "):
            self.check_line(1, "names a", line)
            self.check_line(2, "names a", "a =", line)
            self.check_line(1, "names a", line, "z = delete b")

    def test_the_order_of_pieces(self):
        self.check_line(None, "names a", "a =", "aa =", "b =", "ba =", "fact =", "names =", "z =")
        self.check_line(2, "names a", "b =", "a =", "c =")
        self.check_line(2, "names a", "b =", "b =")
        self.check_line(3, "names a", "b =", "c =", "b = cut")
        self.check_line(2, "names a", "z = delete b", "x =")

    def test_the_thirteenth_piece(self):
        lines = [f"{piece} =" for piece in "abcdefghijkl"]
        self.check_line(None, "names a", *lines)
        self.check_line(13, "names a", *lines, "m =")
        self.check_line(13, "names a", *lines, "m = cut cut", "n =")
        self.check_line(14, "names a", "fact least 0", *lines, "m =")
        self.check_line(13, "names a", "a = delete b", *lines[1:], "m =")

    def test_steps_that_are_no_script(self):
        for text in ("delete b", "use nobody", "use x", "unite a , b c", "top a", "repeat 4 ( cut )", "if whole ( dual ) else ( )",
                     "if whole ( delete a ) else ( )", TEXTS[15], " ; ".join(["truncate"] * 25)):
            self.check_line(1, "names a", f"x = {text}")
            self.check_line(3, "names a", "fact least 0", "a = cut", f"x = {text}", "z = delete a")
            # It is told only if no line of all is wrong by itself.
            self.check_line(2, "names a", f"x = {text}", "x =")
            self.check_line(3, "names a", f"x = {text}", "z =", "")
        self.check_line(1, "names a", "x = delete b", "y = delete b")
        text = "names a\nx = delete b\ny = cut"
        self.assertEqual(wrong_line(text), 2)
        self.check_raises(InvalidPage, {"line": 2}, read_page, text)

    def test_pieces_that_use_others(self):
        self.check_line(None, "names a", "a = use b", "b = use c", "c = cut")
        self.check_line(1, "names a", "a = use b", "b = use c")
        self.check_line(1, "names a", "a = use b", "b = use a")
        self.check_line(1, "names a", "a = use b", "b = use b")
        self.check_line(2, "names a", "a =", "b = use a ; delete a ; use a ; delete a")
        self.check_line(1, "names a", "a = use b", "b = delete b")

    def test_the_forms_of_the_steps_of_other_pieces(self):
        # Each of these is wrong in its own line alone.
        self.check_line(2, "names a b c", "x = use z", "z = unite a , b c")
        self.check_line(3, "names a b c", "x = use z", "y = use x", "z = unite a b , c")
        self.check_line(1, "names a b c", "x = unite a , b c", "z = use x")
        self.check_line(2, "names a b c", "x = repeat 2 ( use z )", "z = unite a , b c ; truncate a")
        # What is no name in it, and what is too deep in the plain script, is wrong wherever it is used.
        self.check_line(1, "names a", "x = use z", "z = unite a , b c")
        self.check_line(1, "names a", "x = use z", f"z = {TEXTS[15]}")

    def test_parameters(self):
        self.assertEqual(str(inspect.signature(write_page)), "(shelf)")
        self.assertEqual(str(inspect.signature(read_page)), "(text)")
        for call in (write_page, read_page):
            self.assertEqual(call.__module__, module.__name__)


if __name__ == "__main__":
    unittest.main()
