"""Heights of a mesh over a land: at spots, against the land and another mesh, and the room below it."""

from braemantle.errors import NoSpot
from braemantle.halves import covers, under
from braemantle.lattice import ends, in_land, need_same, places
from braemantle.shares import less, minus, plus, share, times


def height_at(land, mesh, spot):
    """Tell the height of a mesh at a spot."""
    need_same(land.plan, mesh.plan)
    (over, part), (other_over, other_part) = spot
    # All is made so many times as great that the spot becomes a pair of whole numbers.
    scale = part * other_part
    at = (over * other_part, other_over * part)
    wide, deep, side = land.plan
    if not in_land((wide, deep, side * scale), at):
        raise NoSpot(spot)
    home = [shape for shape in mesh.triangles() if covers(tuple([number * scale for number in shape]), at)][0]
    rise, climb, base, whole = land.flat(home)
    return share(rise * at[0] + climb * at[1] + base * scale, whole * scale)


def drawn(land, mesh):
    """Tell the heights of a mesh at all places, by places."""
    need_same(land.plan, mesh.plan)
    heights = {}
    for shape in mesh.triangles():
        rise, climb, base, whole = land.flat(shape)
        for x, y in under(shape):
            heights[(x, y)] = share(rise * x + climb * y + base, whole)
    return heights


def farthest(plan, ones, others):
    """Tell the greatest distance between heights by places, and the first place in order that has it."""
    greatest, where = (-1, 1), None
    for at in places(plan):
        over, part = minus(ones[at], others[at])
        if less(greatest, (abs(over), part)):
            greatest, where = (abs(over), part), at
    return (greatest, where)


def off(land, mesh):
    """Tell the greatest distance between the land and a mesh at a place, and the first place in order that has it."""
    heights = {at: (land.height(at), 1) for at in places(land.plan)}
    return farthest(land.plan, heights, drawn(land, mesh))


def apart(land, mesh, other):
    """Tell the greatest distance between two meshes, and the first place in order that has it."""
    return farthest(land.plan, drawn(land, mesh), drawn(land, other))


def slope(land, shape):
    """Tell by how much a triangle's plane rises for one step of x, and for one step of y."""
    rise, climb, base, whole = land.flat(shape)
    return (share(rise, whole), share(climb, whole))


def volume(land, mesh):
    """Tell how much room is between a mesh and height nought, what is below nought counted as less than nothing."""
    need_same(land.plan, mesh.plan)
    sixths = 0
    for shape in mesh.triangles():
        # A triangle's room is its ground times the third part of its heights' sum; the plane tells twice the ground.
        sixths += abs(land.flat(shape)[3]) * sum(land.highs(shape))
    return share(sixths, 6)


def slide(land, at, part=(1, 2)):
    """Tell the height of a cut on its way from the middle of its long side to its own."""
    one, other = ends(land.plan, at)
    half = share(land.height(one) + land.height(other), 2)
    return plus(half, times(part, minus((land.height(at), 1), half)))
