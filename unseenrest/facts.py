"""Facts: what is known of the ranks of groups when a script begins."""

from unseenrest.errors import InvalidFact
from unseenrest.forms import MOST_RANK
from unseenrest.frames import frames, led_by
from unseenrest.names import is_group, is_number


def keeps(structure, facts):
    """Whether a structure keeps all of the facts."""
    check_facts(structure.names(), facts)
    return _are_kept(structure, facts)


def fact_rows(script, *, facts=(), gap=0, spare=0):
    """The pairs of each frame that keeps the facts and the one to which the script leads it, in order."""
    names = script.names()
    check_facts(names, facts)
    seen = {}
    return [(frame, led_by(script, frame, seen)) for frame in kept_frames(names, facts, gap, spare)]


def kept_frames(names, facts, gap, spare):
    """All frames with these names that keep right facts and have gaps and spares up to these, in order."""
    kept = {}
    for frame in frames(names, gap=gap, spare=spare):
        # Many frames have the same first structure, on which alone the facts hang.
        key = tuple(frame.first.table())
        if key not in kept:
            kept[key] = _are_kept(frame.first, facts)
        if kept[key]:
            yield frame


def check_facts(names, facts):
    """Raise InvalidFact for the first value that is no fact with these names."""
    if not isinstance(facts, (list, tuple)):
        raise InvalidFact(0)
    for at, value in enumerate(facts):
        if not is_fact(value, names):
            raise InvalidFact(at)


def is_fact(value, names):
    """Whether any value is a fact with these names."""
    if not isinstance(value, tuple) or len(value) != 3 or value[0] not in ("least", "most"):
        return False
    if not is_group(value[1]) or not is_number(value[2], 0, MOST_RANK):
        return False
    return all([name in names for name in value[1]])


def _are_kept(structure, facts):
    return all([_is_kept(structure, fact) for fact in facts])


def _is_kept(structure, fact):
    group = fact[1]
    rank = structure.rank(*group)
    return rank >= fact[2] if fact[0] == "least" else rank <= fact[2]
