"""Closed sets of cuts: those that hold each parent of each of their cuts."""

from braemantle.errors import NotHeld, NotIn
from braemantle.lattice import children, need_cut, parents


def gathered(plan, cuts):
    """Tell handed cuts, each once, as the keys of a dict in order; refuse what is no cut."""
    for at in cuts:
        need_cut(plan, at)
    return {at: True for at in sorted(set(cuts))}


def lacking(plan, known, at):
    """Tell the parents of a cut that are no keys of a dict, in order."""
    return [place for place in parents(plan, at) if place not in known]


def crack(plan, cuts):
    """Tell the first cut in order that lacks a parent, with the first one that it lacks; None for a closed set."""
    known = gathered(plan, cuts)
    for at in known:
        missing = lacking(plan, known, at)
        if missing:
            return (at, missing[0])
    return None


def above(plan, cuts):
    """Tell the least closed set that holds all of the cuts, in order."""
    known = gathered(plan, cuts)
    waiting = list(known)
    while waiting:
        missing = lacking(plan, known, waiting.pop())
        for at in missing:
            known[at] = True
        waiting.extend(missing)
    return sorted(known)


def within(plan, cuts):
    """Tell the greatest closed set that the cuts hold, in order."""
    known = gathered(plan, cuts)
    waiting = list(known)
    while waiting:
        at = waiting.pop()
        if at in known and lacking(plan, known, at):
            del known[at]
            # A cut that was looked at already may lack this one now.
            waiting.extend(children(plan, at))
    return sorted(known)


def why(plan, cuts, at):
    """Tell a chain from a cut down to one of the cuts, each next one a child, that shows why it is above them."""
    known = gathered(plan, cuts)
    need_cut(plan, at)
    closed = gathered(plan, above(plan, cuts))
    if at not in closed:
        raise NotIn(at)
    chain = [at]
    while chain[-1] not in known:
        # What is above the cuts, but none of them, is there for the sake of a child.
        chain.append([child for child in children(plan, chain[-1]) if child in closed][0])
    return chain


def lacks(plan, cuts, at):
    """Tell a chain from a cut up to one that is none of the cuts, each next one a parent, that keeps it out."""
    known = gathered(plan, cuts)
    need_cut(plan, at)
    closed = gathered(plan, within(plan, cuts))
    if at in closed:
        raise NotHeld(at)
    chain = [at]
    while chain[-1] in known:
        # One of the cuts that is not within them was let go for the sake of a parent.
        chain.append(lacking(plan, closed, chain[-1])[0])
    return chain
