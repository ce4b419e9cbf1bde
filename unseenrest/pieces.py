"""Pieces that steps use: whether they are given, and the plain steps in which they are replaced."""

from unseenrest.errors import Circular, UnknownPiece
from unseenrest.forms import steps_within


def pieces_used(steps, pieces):
    """The pieces that steps use, directly or not, each behind those that it uses itself."""
    return _pieces_read(steps, pieces, (), ())


def uses_in(steps):
    """The pieces that steps use directly or in steps within them, in the order in which the uses stand."""
    found = []
    for step in steps:
        if step[0] == "use":
            found = found + [step[1]]
        else:
            found = found + uses_in(steps_within(step))
    return found


def size_of(steps, pieces):
    """The number of the plain steps, repeats counted as often as they are done, and how deep these stand."""
    sizes = {}
    # A piece is measured once, as a few pieces may use one another so often that nobody could write them out.
    for piece in pieces_used(steps, pieces):
        sizes[piece] = _size(pieces[piece], sizes)
    return _size(steps, sizes)


def plain_steps(steps, pieces):
    """The steps, with the steps of its piece in the place of each use."""
    plain = {}
    for piece in pieces_used(steps, pieces):
        plain[piece] = _replaced(pieces[piece], plain)
    return _replaced(steps, plain)


def _pieces_read(steps, pieces, within, done):
    """The pieces that are done, with those that steps use; the steps stand within some pieces."""
    for piece in uses_in(steps):
        if piece in within:
            raise Circular(piece)
        if piece not in pieces:
            raise UnknownPiece(piece)
        # What was read without an error is read so again.
        if piece not in done:
            done = _pieces_read(pieces[piece], pieces, within + (piece,), done) + (piece,)
    return done


def _size(steps, sizes):
    """The number of steps and how deep they stand, by the sizes of the pieces."""
    count, depth = 0, 0
    for step in steps:
        more, deeper = _size_of_step(step, sizes)
        count, depth = count + more, max(depth, deeper)
    return count, depth


def _size_of_step(step, sizes):
    if step[0] == "use":
        return sizes[step[1]]
    count, depth = _size(steps_within(step), sizes)
    times = step[1] if step[0] == "repeat" else 1
    return 1 + times * count, 1 + depth


def _replaced(steps, plain):
    """The steps, with the plain steps of its piece in the place of each use."""
    found = ()
    for step in steps:
        if step[0] == "use":
            found = found + plain[step[1]]
        elif step[0] == "if":
            found = found + (("if", step[1], _replaced(step[2], plain), _replaced(step[3], plain)),)
        elif step[0] == "repeat":
            found = found + (("repeat", step[1], _replaced(step[2], plain)),)
        else:
            found = found + (step,)
    return found
