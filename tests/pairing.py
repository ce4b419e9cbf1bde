"""Pairs of scripts that can be compared, and what both leave, by points 12 to 15 and by doing them on structures."""

from itertools import combinations

from brute import ranks_of
from framing import all_frames
from scripting import DUAL, repeat
from stepping import fitting_group
from test_running import done, drawn_script
from unseenrest.errors import Missing, RestError
from unseenrest.frames import frame_of
from unseenrest.running import run
from unseenrest.scripts import Script

# None of these steps changes anything, whatever the names are.
NEUTRAL = [(repeat(1),), (DUAL, DUAL), (("truncate", ()),), (("unite", ((),)),), (("extend", "zz", ()), ("delete", "zz"))]


def made(names, steps):
    """The script with these steps, or None if there is none."""
    try:
        return Script(names, steps)
    except (RestError, Missing):
        return None


def variants(drawn, script):
    """Scripts that are much like a script."""
    names, steps = script.names(), script.steps()
    at = drawn.randrange(len(steps) + 1)
    neutral = drawn.choice(NEUTRAL)
    found = [steps, steps[:at] + neutral + steps[at:], steps[:at] + steps[at + 1:]]
    if at + 1 < len(steps):
        found.append(steps[:at] + (steps[at + 1], steps[at]) + steps[at + 2:])
    if at < len(steps) and steps[at][0] in ("extend", "truncate"):
        found.append(steps[:at] + (steps[at][:-1] + (fitting_group(drawn, names),),) + steps[at + 1:])
    found.append(steps[:at] + (drawn.choice([("cut",), ("truncate", fitting_group(drawn, names))]),) + steps[at:])
    return [made(names, some) for some in found]


def paired(one, other):
    return (one.names(), one.ends(), one.turned) == (other.names(), other.ends(), other.turned)


def drawn_pair(drawn, names):
    """Two scripts with the same names and ends, turned alike."""
    while True:
        one = drawn_script(drawn, names)
        like = variants(drawn, one)
        other = drawn.choice(like + like[2:] * 3 + [drawn_script(drawn, names)] * 2)
        if other is not None and paired(one, other):
            return drawn.choice([(one, other), (other, one)])


def most_cuts(*scripts):
    return [max(script.cuts[kind] for script in scripts) for kind in (0, 1)]


def groups_by_index(names):
    """All groups of ascending names, by the indexes of their sets."""
    groups = [group for many in range(len(names) + 1) for group in combinations(names, many)]
    return sorted(groups, key=lambda group: sum(2 ** names.index(name) for name in group))


def marked_behind(script, frame):
    """The numbers of the marked elements behind a script, for the structure to which a frame is built."""
    return range(frame.marked, frame.unseen) if script.turned else range(frame.marked)


def pairs_of_ranks(one, other, frame):
    """The groups of the ends, by index, with the ranks that they have with the marked elements behind two scripts."""
    structure = frame.built()
    first, second = run(one, structure), run(other, structure)
    marks = list(marked_behind(one, frame))
    return [
        (group, first.rank(*group, marks=marks), second.rank(*group, marks=marks))
        for group in groups_by_index(one.ends())
    ]


def first_set(one, other, frames, unlike):
    """The first frame, and the first group, of which the ranks are unlike; None if there is none."""
    for frame in frames:
        for group, first, second in pairs_of_ranks(one, other, frame):
            if unlike(first, second):
                return frame, group
    return None


def ranks_left(script, structure):
    """The ranks behind a script, set by set."""
    ranks = ranks_of(structure)
    pairs = done(ranks, script.plain())
    return pairs[-1][1] if pairs else ranks


def is_kept(structure, fact):
    rank = structure.rank(*fact[1])
    return rank >= fact[2] if fact[0] == "least" else rank <= fact[2]


def kept(frames, facts):
    return [frame for frame in frames if all(is_kept(frame.first, fact) for fact in facts)]


def frames_that_matter(facts, *scripts, more=0):
    """All frames up to the cuts that keep the facts, in their order."""
    gap, spare = most_cuts(*scripts)
    return kept(all_frames(scripts[0].names(), gap + more, spare + more), facts)


def shown_behind(script, frame):
    """The frame that the structure to which a frame is built shows behind a script."""
    return frame_of(run(script, frame.built()), *marked_behind(script, frame))


def drawn_facts(drawn, names):
    return [
        (drawn.choice(["least", "most"]), fitting_group(drawn, names), drawn.choice([0, 1, 1, 2]))
        for _ in range(drawn.choice([0, 0, 1, 1, 2]))
    ]
