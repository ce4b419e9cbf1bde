"""Points 4 and 5 of the document, word by word: ranks are dicts from sets of elements to numbers."""

from brute import subsets


def everything(ranks):
    return max(ranks, key=len)


def spans(ranks, part, group):
    """Whether a group lies in the span of a set."""
    return all(ranks[part | {item}] == ranks[part] for item in group)


def deleted(ranks, name):
    return {part: ranks[part] for part in subsets(everything(ranks) - {name})}


def contracted(ranks, name):
    rest = everything(ranks) - {name}
    return {part: ranks[part | {name}] - ranks[frozenset([name])] for part in subsets(rest)}


def dual(ranks):
    whole = everything(ranks)
    return {part: len(part) + ranks[whole - part] - ranks[whole] for part in ranks}


def extended(ranks, name, group):
    out = dict(ranks)
    for part in ranks:
        out[part | {name}] = ranks[part] + (0 if spans(ranks, part, group) else 1)
    return out


def topped(ranks, name):
    return extended(ranks, name, everything(ranks))


def truncated(ranks, group):
    group = frozenset(group)
    return {part: rank - 1 if ranks[group] > 0 and spans(ranks, part, group) else rank for part, rank in ranks.items()}


def cut(ranks):
    return truncated(ranks, everything(ranks))


def base_rank(bases, part):
    return max(len(part & set(base)) for base in bases)


def united(ranks, bases):
    return {
        part: min(ranks[less] + base_rank(bases, less) + len(part - less) for less in subsets(part)) for part in ranks
    }


def renamed(ranks, name, fresh):
    return {frozenset(fresh if item == name else item for item in part): rank for part, rank in ranks.items()}


def changed(ranks, step):
    """The ranks behind a step other than if, repeat and use."""
    words = {
        "delete": deleted, "contract": contracted, "dual": dual, "extend": extended, "top": topped,
        "truncate": truncated, "cut": cut, "unite": united, "rename": renamed,
    }
    return words[step[0]](ranks, *step[1:])
