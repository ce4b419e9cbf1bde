"""Desks: a shelf that is asked and changed by lines of words."""

from unseenrest.claims import rank_range
from unseenrest.comparing import fewest
from unseenrest.errors import Missing, NothingLeft, RestError

# How many words stand behind the first one in a line of each kind.
COUNTS = {
    "names": 0, "pieces": 0, "show": 1, "ends": 1, "alike": 2, "unseen": 2, "range": 1,
    "put": 1, "change": 1, "drop": 1, "undo": 0, "redo": 0,
}
# In lines of these kinds, any number of others may follow.
LONGER = ("range", "put", "change")


class Desk:
    """A desk with a shelf."""

    def __init__(self, shelf):
        self._shelf = shelf
        self._log = []

    @property
    def shelf(self):
        """The shelf that is asked and changed."""
        return self._shelf

    def say(self, line):
        """The answer to a line."""
        answer = _answer(self._shelf, line)
        self._log.append((line, answer))
        return answer

    def log(self):
        """The list of the pairs (line, answer)."""
        return list(self._log)

    def __call__(self, line):
        return self.say(line)

    def __len__(self):
        return len(self._log)

    def __bool__(self):
        return True

    def __repr__(self):
        return f"Desk({len(self._log)} lines)"


def _answer(shelf, line):
    words = line.split(" ")
    if "\n" in line or "" in words or not _is_known(words):
        return "unknown"
    try:
        if words[0] in ("names", "pieces", "show", "ends"):
            return _told(shelf, words)
        if words[0] in ("alike", "unseen", "range"):
            return _asked(shelf, words)
        _do(shelf, words)
    except (RestError, Missing, NothingLeft) as e:
        return f"error {e.code}"
    return "done"


def _is_known(words):
    """Whether words, of which none is empty, are of the form of a line with an answer of its own."""
    if words[0] not in COUNTS:
        return False
    more = len(words) - 1 - COUNTS[words[0]]
    return more == 0 or (more > 0 and words[0] in LONGER)


def _told(shelf, words):
    """The answer to a question about the shelf as it is."""
    if words[0] == "show":
        return shelf.text(words[1]) or "nothing"
    if words[0] == "names":
        return _listed(shelf.names())
    if words[0] == "pieces":
        return _listed(shelf.pieces())
    return _listed(shelf.script(words[1]).ends())


def _listed(words):
    return " ".join(words) or "none"


def _asked(shelf, words):
    """The answer to a question about all structures that keep the facts."""
    if words[0] == "alike":
        return "alike" if shelf.alike(words[1], words[2]) else "differ"
    script, facts = shelf.script(words[1]), shelf.facts()
    if words[0] == "unseen":
        many = fewest(script, shelf.script(words[2]), facts=facts)
        return "alike" if many is None else str(many)
    names = words[2:]
    least, greatest = rank_range(script, *names, facts=facts)
    return f"{least} {greatest}"


def _do(shelf, words):
    """Do what a line says that changes the shelf."""
    if words[0] == "undo":
        shelf.undo()
    elif words[0] == "redo":
        shelf.redo()
    elif words[0] == "drop":
        shelf.apply(("drop", words[1]))
    else:
        shelf.apply((words[0], words[1], " ".join(words[2:])))
