"""What holds behind a script on all structures, and which of its steps do not matter."""

from unseenrest.comparing import are_alike
from unseenrest.errors import InvalidStep, Missing, NoStructure, RestError, UnknownName
from unseenrest.facts import check_facts, kept_frames
from unseenrest.forms import is_test, names_tested
from unseenrest.frames import holds_at, led_by


def refuted(script, test, *, facts=()):
    """The first frame of a structure behind which the test fails when the script was done, or None."""
    if not is_test(test):
        raise InvalidStep(())
    _check_ends(script, names_tested(test))
    begins = script.names()
    check_facts(begins, facts)
    gap, spare = script.cuts
    if test[0] == "whole":
        # This test looks, too, behind all looks of the script.
        gap, spare = gap + 1, spare + 1
    seen = {}
    for frame in kept_frames(begins, facts, gap, spare):
        if not holds_at(led_by(script, frame, seen), test):
            return frame
    return None


def surely(script, test, *, facts=()):
    """Whether the test holds behind the script on all structures that keep the facts."""
    return refuted(script, test, facts=facts) is None


def rank_range(script, *names, facts=()):
    """The pair of the least and the greatest rank of these names behind the script."""
    _check_ends(script, names)
    begins = script.names()
    check_facts(begins, facts)
    gap, spare = script.cuts
    seen = {}
    ranks = []
    for frame in kept_frames(begins, facts, gap, spare):
        behind = led_by(script, frame, seen).first
        ranks.append(behind.rank(*names))
    if not ranks:
        raise NoStructure()
    return min(ranks), max(ranks)


def needless(script, *, facts=()):
    """The ascending list of the indexes of the steps without which the script leaves the same."""
    check_facts(script.names(), facts)
    return [at for at in range(len(script)) if _goes_without(script, at, facts)]


def exchangeable(script, *, facts=()):
    """The ascending list of the indexes of the steps that can be exchanged with the next one."""
    check_facts(script.names(), facts)
    return [at for at in range(len(script) - 1) if _goes_swapped(script, at, facts)]


def _check_ends(script, names):
    """Raise UnknownName for the first that is no name at the end of the script."""
    ends = script.ends()
    for name in names:
        if name not in ends:
            raise UnknownName(name)


def _goes_without(script, at, facts):
    # The facts are known to be right: what is raised tells that there is no such script, or that it ends or turns
    # in another way.
    try:
        return are_alike(script, script.without(at), facts=facts)
    except (RestError, Missing):
        return False


def _goes_swapped(script, at, facts):
    try:
        return are_alike(script, script.swapped(at), facts=facts)
    except (RestError, Missing):
        return False
