"""Pages: the text of a whole shelf."""

from unseenrest.commands import is_script
from unseenrest.errors import InvalidPage, InvalidText
from unseenrest.facts import is_fact
from unseenrest.names import is_group, is_piece
from unseenrest.scripts import MOST_GIVEN
from unseenrest.shelves import Shelf, filled_shelf
from unseenrest.texts import RANKS, read_steps


def write_page(shelf):
    """The page of a shelf."""
    lines = [["names"] + shelf.names()]
    for fact in shelf.facts():
        lines.append(["fact", fact[0], str(fact[2])] + list(fact[1]))
    for piece in shelf.pieces():
        text = shelf.text(piece)
        lines.append([piece, "="] + ([text] if text else []))
    return "".join([" ".join(words) + "\n" for words in lines])


def read_page(text):
    """The shelf of a page, with the greatest limit, without steps and kept answers."""
    if not isinstance(text, str):
        raise InvalidPage(0)
    lines = text.split("\n")
    # What stands behind the last line feed is a line that lacks its own.
    whole, rest = lines[:-1], lines[-1]
    names, facts, pieces = _read_lines(whole)
    if rest:
        raise InvalidPage(len(whole))
    for at, piece in enumerate(pieces, start=1 + len(facts)):
        if not is_script(names, pieces[piece], pieces):
            raise InvalidPage(at)
    return filled_shelf(names, pieces, facts)


def _read_lines(lines):
    """The names, the facts and the steps by pieces, in order, that lines tell."""
    names = _read_names(lines[0]) if lines else None
    if names is None:
        raise InvalidPage(0)
    facts, pieces, last = (), {}, ""
    for at, line in enumerate(lines[1:], start=1):
        fact, found = _read_fact(line, names), _read_piece(line)
        if fact is not None and not pieces:
            facts = facts + (fact,)
        elif found is not None and found[0] > last and len(pieces) < Shelf.MOST:
            last = found[0]
            pieces[last] = found[1]
        else:
            raise InvalidPage(at)
    return names, facts, pieces


def _read_names(line):
    """The group of the names that a line tells, or None if it is no such line."""
    words = line.split(" ")
    names = tuple(words[1:])
    return names if words[0] == "names" and is_group(names) and len(names) <= MOST_GIVEN else None


def _read_fact(line, names):
    """The fact with these names that a line tells, or None if it is no such line."""
    words = line.split(" ")
    if len(words) < 3 or words[0] != "fact" or words[2] not in RANKS:
        return None
    fact = (words[1], tuple(words[3:]), int(words[2]))
    return fact if is_fact(fact, names) else None


def _read_piece(line):
    """The pair of the piece and its steps that a line tells, or None if it is no such line."""
    words = line.split(" ")
    if len(words) < 2 or not is_piece(words[0]) or words[1] != "=":
        return None
    # A line without steps ends with its second word; a space behind it begins an empty third one.
    if len(words) > 2 and words[2] == "":
        return None
    try:
        return words[0], read_steps(" ".join(words[2:]))
    except InvalidText:
        return None
