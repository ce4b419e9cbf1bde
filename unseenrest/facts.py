"""Facts: what is known of the ranks of groups when a script begins."""

from unseenrest.errors import InvalidFact
from unseenrest.forms import MOST_RANK
from unseenrest.frames import frames, led
from unseenrest.names import is_group, is_number


def keeps(structure, facts):
    """Whether a structure keeps all of the facts."""
    check_facts(structure.names(), facts)
    return all([_is_kept(structure, fact) for fact in facts])


def fact_rows(script, *, facts=(), gap=0, spare=0):
    """The pairs of each frame that keeps the facts and the one to which the script leads it, in order."""
    names = script.names()
    check_facts(names, facts)
    return [
        (frame, led(script, frame)) for frame in frames(names, gap=gap, spare=spare) if keeps(frame.first, facts)
    ]


def check_facts(names, facts):
    """Raise InvalidFact for the first value that is no fact with these names."""
    if not isinstance(facts, (list, tuple)):
        raise InvalidFact(0)
    for at, value in enumerate(facts):
        if not _is_fact(value, names):
            raise InvalidFact(at)


def _is_fact(value, names):
    if not isinstance(value, tuple) or len(value) != 3 or value[0] not in ("least", "most"):
        return False
    if not is_group(value[1]) or not is_number(value[2], 0, MOST_RANK):
        return False
    return all([name in names for name in value[1]])


def _is_kept(structure, fact):
    group = fact[1]
    rank = structure.rank(*group)
    return rank >= fact[2] if fact[0] == "least" else rank <= fact[2]
