"""The commands of a shelf: what each of them makes of the steps by pieces and of the facts."""

from unseenrest.errors import DuplicateName, Full, InUse, InvalidCommand, InvalidName, Missing, RestError, UnknownPiece
from unseenrest.facts import check_facts
from unseenrest.names import is_piece
from unseenrest.pieces import uses_in
from unseenrest.scripts import Script
from unseenrest.texts import read_steps


def check_commands(commands):
    """Raise InvalidCommand for the first value that is no command."""
    for at, value in enumerate(commands):
        if not _is_command(value):
            raise InvalidCommand(at)


def behind_command(names, limit, state, command):
    """The pair of the steps by pieces and the facts behind a command; those before it stay as they are."""
    pieces, facts = state
    if command[0] == "put":
        return _put(names, limit, pieces, command[1], command[2]), facts
    if command[0] == "change":
        return _change(names, pieces, command[1], command[2]), facts
    if command[0] == "drop":
        return _drop(pieces, command[1]), facts
    check_facts(names, command[1:])
    return pieces, command[1:]


def check_piece(pieces, piece):
    """Raise UnknownPiece for any value that is none of the pieces."""
    if not is_piece(piece) or piece not in pieces:
        raise UnknownPiece(piece)


def users_of(pieces, piece):
    """The ascending list of the pieces whose steps use a piece directly."""
    return [user for user in sorted(pieces) if piece in uses_in(pieces[user])]


def is_script(names, steps, pieces):
    """Whether there is a script with these names, steps and pieces."""
    try:
        Script(names, steps, pieces=pieces)
    except (RestError, Missing):
        return False
    return True


def _is_command(value):
    if not isinstance(value, tuple) or len(value) == 0:
        return False
    if value[0] in ("put", "change"):
        return len(value) == 3
    if value[0] == "drop":
        return len(value) == 2
    return value[0] == "facts"


def _put(names, limit, pieces, piece, text):
    if not is_piece(piece):
        raise InvalidName(piece)
    if piece in pieces:
        raise DuplicateName(piece)
    # There may be more pieces than the limit allows, behind an undo or a redo.
    if len(pieces) >= limit:
        raise Full(limit)
    return _with_piece(names, pieces, piece, read_steps(text))


def _change(names, pieces, piece, text):
    check_piece(pieces, piece)
    found = _with_piece(names, pieces, piece, read_steps(text))
    for user in sorted(found):
        if user != piece and not is_script(names, found[user], found):
            raise InUse(piece, user)
    return found


def _drop(pieces, piece):
    check_piece(pieces, piece)
    users = users_of(pieces, piece)
    if users:
        raise InUse(piece, users[0])
    return {other: pieces[other] for other in pieces if other != piece}


def _with_piece(names, pieces, piece, steps):
    """The steps by pieces, with those of one piece, which must make a script."""
    found = {other: pieces[other] for other in pieces}
    found[piece] = steps
    # The script is not needed here, but the errors that making it raises are.
    Script(names, steps, pieces=found)
    return found
