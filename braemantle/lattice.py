"""The lattice: plans, places, corners of blocks, and the cuts with their kin."""

from braemantle.errors import BadSize, NoCut, NoPlace, OtherPlan

SIDE = 4
BLOCKS = (1, 2, 3)
SIDES = (2, 4, 8)


def is_whole(thing):
    """Tell whether a thing is a whole number; True and False are none here."""
    return isinstance(thing, int) and not isinstance(thing, bool)


def planned(wide=1, deep=1, *, side=SIDE):
    """Tell the plan of so many blocks to the right and up, each of so many steps along a side."""
    for size, allowed in ((wide, BLOCKS), (deep, BLOCKS), (side, SIDES)):
        if not is_whole(size) or size not in allowed:
            raise BadSize(size)
    return (wide, deep, side)


def need_same(one, other):
    """Refuse things of two plans that differ."""
    if one != other:
        raise OtherPlan("the two plans differ")


def in_land(plan, at):
    """Tell whether a pair of whole numbers is a place of the plan."""
    wide, deep, side = plan
    x, y = at
    return 0 <= x <= wide * side and 0 <= y <= deep * side


def need_place(plan, at):
    """Refuse a pair that is no place of the plan."""
    if not in_land(plan, at):
        raise NoPlace(at)


def is_corner(plan, at):
    """Tell whether a place is a corner of blocks."""
    need_place(plan, at)
    side = plan[2]
    x, y = at
    return x % side == 0 and y % side == 0


def need_cut(plan, at):
    """Refuse a pair that is no place of the plan, then one that is no cut."""
    if is_corner(plan, at):
        raise NoCut(at)


def places(plan):
    """Tell all places of the plan, in order."""
    wide, deep, side = plan
    return [(x, y) for x in range(wide * side + 1) for y in range(deep * side + 1)]


def corners(plan):
    """Tell all corners of blocks, in order."""
    return [at for at in places(plan) if is_corner(plan, at)]


def cuts(plan):
    """Tell all cuts, in order."""
    return [at for at in places(plan) if not is_corner(plan, at)]


def stride(at):
    """Tell the step of what is known to be a cut."""
    x, y = at
    for size in (4, 2):
        if x % size == 0 and y % size == 0:
            return size
    return 1


def is_centre(at):
    """Tell whether what is known to be a cut is a centre, not a middle of an edge."""
    x, y = at
    size = stride(at)
    return (x // size) % 2 == 1 and (y // size) % 2 == 1


def edge_pairs(at):
    """Tell the ends of the long side of a middle of an edge, then the places that face it."""
    x, y = at
    size = stride(at)
    lying = ((x - size, y), (x + size, y))
    upright = ((x, y - size), (x, y + size))
    if (x // size) % 2 == 1:
        return (lying, upright)
    return (upright, lying)


def centre_pairs(at):
    """Tell the ends of the long side of a centre, then the places that face it."""
    x, y = at
    size = stride(at)
    rising = ((x - size, y - size), (x + size, y + size))
    falling = ((x - size, y + size), (x + size, y - size))
    # One look at the lower left corner is enough: its neighbours in the square have the other parity.
    if ((x - size) // (2 * size) + (y - size) // (2 * size)) % 2 == 0:
        return (rising, falling)
    return (falling, rising)


def pairs(at):
    """Tell two pairs of places in order: the ends of a cut's long side, and those that face it across that side."""
    if is_centre(at):
        return centre_pairs(at)
    return edge_pairs(at)


def step(plan, at):
    """Tell the greatest of 1, 2 and 4 that divides both numbers of a cut."""
    need_cut(plan, at)
    return stride(at)


def ends(plan, at):
    """Tell the two ends of the long side in whose middle a cut stands, in order."""
    need_cut(plan, at)
    return pairs(at)[0]


def parents(plan, at):
    """Tell the cuts that face a cut across its long side, in order."""
    need_cut(plan, at)
    facing = pairs(at)[1]
    return [place for place in facing if in_land(plan, place) and not is_corner(plan, place)]


def children(plan, at):
    """Tell the cuts of which a cut is a parent, in order."""
    need_cut(plan, at)
    x, y = at
    size = stride(at)
    if is_centre(at):
        near = [(x - size, y), (x, y - size), (x, y + size), (x + size, y)]
    elif size > 1:
        half = size // 2
        near = [(x - half, y - half), (x - half, y + half), (x + half, y - half), (x + half, y + half)]
    else:
        near = []
    return [place for place in near if in_land(plan, place)]


def level(plan, at):
    """Tell how many cuts stand above a cut, one parent above the other, up to the centre of a block."""
    many = 0
    elders = parents(plan, at)
    while elders:
        many += 1
        # Where there are two parents they are of one level, so either leads up.
        elders = parents(plan, elders[0])
    return many
