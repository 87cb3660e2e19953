"""Sending: cuts and heights in an order in which each beginning can be shown, and flights planned ahead."""

from braemantle.closing import gathered
from braemantle.errors import BadRate, BadRest, Lacking, Twice
from braemantle.lattice import ends, level, need_cut
from braemantle.mesh import Mesh


def order(plan, cuts):
    """Tell the cuts, each once, by level, those of one level in order."""
    return sorted(gathered(plan, cuts), key=lambda at: (level(plan, at), at))


def rests(land, cuts):
    """Tell for each cut, in the sending order, twice its height less the heights of its two ends."""
    told = []
    for at in order(land.plan, cuts):
        one, other = ends(land.plan, at)
        told.append((at, 2 * land.height(at) - land.height(one) - land.height(other)))
    return told


def regain(plan, heights, rows):
    """Tell a dict of the handed heights and of those that the rests in rows stand for."""
    known = dict(heights)
    for at, rest in rows:
        need_cut(plan, at)
        if at in known:
            raise Twice(at)
        places = ends(plan, at)
        missing = [place for place in places if place not in known]
        if missing:
            raise Lacking(at, missing[0])
        twofold = rest + sum([known[place] for place in places])
        if twofold % 2 == 1:
            raise BadRest(at, rest)
        known[at] = twofold // 2
    return known


def need_rate(rate):
    """Refuse a rate, or a number of cuts ahead, that is less than nought."""
    if rate < 0:
        raise BadRate(rate)


def fresh(plan, wants):
    """Tell for each moment the cuts that no earlier one wants, in the sending order; refuse sets like Mesh."""
    known = {}
    told = []
    for wanted in wants:
        news = [at for at in order(plan, Mesh(plan, wanted).cuts()) if at not in known]
        for at in news:
            known[at] = True
        told.append(news)
    return told


def needs(news):
    """Tell for each moment how many cuts are wanted up to it."""
    told = []
    for each in news:
        told.append(len(each) + (told[-1] if told else 0))
    return told


def parted(row, rate, ahead, moments):
    """Tell a row of cuts in parts, each as full as it can be: those sent ahead, and those for each moment."""
    parts = [row[:ahead]]
    start = ahead
    for moment in range(moments):
        parts.append(row[start:start + rate])
        start += rate
    return parts


def sent(plan, wants, *, rate=1, ahead=0):
    """Plan a flight: tell which cuts are sent for which moment, or the first moment for which they come late."""
    need_rate(rate)
    need_rate(ahead)
    news = fresh(plan, wants)
    for moment, need in enumerate(needs(news)):
        brought = ahead + rate * (moment + 1)
        if need > brought:
            return ("late", moment, need, brought)
    row = [at for each in news for at in each]
    return ("goes", parted(row, rate, ahead, len(news)))


def least_rate(plan, wants, *, ahead=0):
    """Tell the least rate with which a flight goes."""
    need_rate(ahead)
    least = 0
    for moment, need in enumerate(needs(fresh(plan, wants))):
        # The two signs make the division go up to the next whole number, not down.
        least = max(least, -((ahead - need) // (moment + 1)))
    return least
