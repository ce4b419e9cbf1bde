"""Points 17 and 18 of the document, word by word: a shelf as a model, whose errors are told as Wrong."""

from checking import Wrong, checked, plain_of
from stepping import is_word
from test_facts import WRONG as NO_FACTS
from unseenrest.errors import InvalidText
from unseenrest.texts import read_steps

WORDS = {"put": 3, "change": 3, "drop": 2}
WRONG_COMMANDS = [
    ("put",), ("put", "x"), ("put", "x", "cut", ""), ("change",), ("change", "x"), ("change", "x", "cut", ()), ("drop",),
    ("drop", "x", "y"), ("Put", "x", "cut"), ("", "x"), ((),), (["put"], "x", "cut"), (None, "x", "cut"), ("fact",), ("undo",),
    ["put", "x", "cut"], ["facts"], "facts", "drop", ("dropx", "x"), (("drop", "x"),), ("redo",), ("alike", "x", "y"), {},
]


def is_fact(value, names):
    """Whether a value is a fact of these names, by point 14."""
    if not isinstance(value, tuple) or len(value) != 3 or value[0] not in ("least", "most"):
        return False
    _, group, rank = value
    if not isinstance(group, tuple) or not all(is_word(name, 4) and name in names for name in group):
        return False
    return list(group) == sorted(set(group)) and type(rank) is int and 0 <= rank <= 6


def uses(steps):
    for step in steps:
        if step[0] == "use":
            yield step[1]
        elif step[0] == "if":
            yield from uses(step[2] + step[3])
        elif step[0] == "repeat":
            yield from uses(step[2])


def read(text):
    try:
        return read_steps(text)
    except InvalidText as error:
        raise Wrong("InvalidText", error.word) from None


def is_script(names, steps, pieces):
    try:
        checked(names, steps, pieces)
    except Wrong:
        return False
    return True


class Model:
    """The names, the limit and the states of a shelf; a state is a pair of steps by pieces and facts."""

    def __init__(self, names, limit=8):
        self.names, self.limit = sorted(names), limit
        self.states, self.at = [({}, [])], 0
        self.answers, self.computed = {}, 0

    @property
    def pieces(self):
        return self.states[self.at][0]

    @property
    def facts(self):
        return self.states[self.at][1]

    def apply(self, *commands):
        for at, command in enumerate(commands):
            right = isinstance(command, tuple) and command and isinstance(command[0], str)
            if not right or command[0] != "facts" and WORDS.get(command[0]) != len(command):
                raise Wrong("InvalidCommand", at)
        pieces, facts = dict(self.pieces), list(self.facts)
        for command in commands:
            pieces, facts = self.behind(dict(pieces), facts, *command)
        if commands:
            self.states[self.at + 1:] = [(pieces, facts)]
            self.move(self.at + 1)

    def behind(self, pieces, facts, word, *rest):
        if word == "facts":
            for at, value in enumerate(rest):
                if not is_fact(value, self.names):
                    raise Wrong("InvalidFact", at)
            return pieces, list(rest)
        piece = rest[0]
        if word == "put":
            if not is_word(piece, 6):
                raise Wrong("InvalidName", piece)
            if piece in pieces:
                raise Wrong("DuplicateName", piece)
            if len(pieces) >= self.limit:
                raise Wrong("Full", self.limit)
        elif not isinstance(piece, str) or piece not in pieces:
            raise Wrong("UnknownPiece", piece)
        if word == "drop":
            for user in sorted(pieces):
                if piece in uses(pieces[user]):
                    raise Wrong("InUse", piece, user)
            del pieces[piece]
            return pieces, facts
        pieces[piece] = read(rest[1])
        checked(self.names, pieces[piece], pieces)
        for user in sorted(pieces):
            if user != piece and not is_script(self.names, pieces[user], pieces):
                raise Wrong("InUse", piece, user)
        return pieces, facts

    def undo(self):
        if self.at == 0:
            raise Wrong("NothingLeft")
        self.move(self.at - 1)

    def redo(self):
        if self.at + 1 == len(self.states):
            raise Wrong("NothingLeft")
        self.move(self.at + 1)

    def move(self, at):
        before, facts = self.states[self.at]
        self.at = at
        for pair in list(self.answers):
            same = facts == self.facts and all(piece in self.pieces for piece in pair)
            if not same or any(plain_of(before[x], before) != plain_of(self.pieces[x], self.pieces) for x in pair):
                del self.answers[pair]


PIECES = ["x", "y", "z", "far"]
TEXTS = [
    "", "cut", "top p", "top p ; delete a", "extend p a ; delete a", "use x", "use y", "use z ; use x", "cut ; use far",
    "repeat 2 ( use x )", "if whole ( use y ) else ( use y )", "truncate a", "dual ; use z ; dual", "use x ; delete p",
    "repeat 4 ( cut )", "repeat 1 ( repeat 1 ( repeat 1 ( repeat 1 ( cut ) ) ) )", "repeat 1 ( repeat 1 ( repeat 1 ( use x ) ) )",
    "delete b", "unite a , b c", "cut cut", " cut", "if whole ( dual ) else ( )", "use nobody", "rename a b", "rename b a",
]
ODD_TEXTS = [None, 7, (), ["cut"], ("cut",), True]
FACTS = [("least", ("a",), 1), ("most", ("a",), 0), ("least", (), 0), ("most", (), 6)]


def drawn_command(drawn, model):
    """A command; most of them can be done."""
    pieces = sorted(model.pieces)
    word = drawn.choice(["put"] * 4 + ["change"] * 4 + ["drop", "drop", "facts"])
    if word == "facts":
        wrong = drawn.choice([[], [], [], NO_FACTS[:4]])
        return ("facts",) + tuple(drawn.choice(FACTS + wrong) for _ in range(drawn.randrange(3)))
    free = [piece for piece in PIECES if piece not in pieces]
    likely = free if word == "put" else pieces
    piece = drawn.choice((likely or PIECES) * 8 + PIECES + [None, "X", "abcdefg", ["x"], "new"])
    if word == "drop":
        return word, piece
    used = [f"use {piece}" for piece in pieces] + [f"repeat 2 ( use {piece} ) ; truncate" for piece in pieces]
    text = drawn.choice([drawn.choice(used or TEXTS), drawn.choice(TEXTS[:5]), drawn.choice(TEXTS + ODD_TEXTS)])
    return word, piece, text
