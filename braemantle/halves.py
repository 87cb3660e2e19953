"""Triangles: the roots of the blocks, their halves, and what a triangle covers."""

from braemantle.errors import NoHalf
from braemantle.lattice import in_land


def block_roots(i, j, side):
    """Tell the two roots of the i-th block to the right and the j-th up."""
    x, y = i * side, j * side
    right, top = x + side, y + side
    if (i + j) % 2 == 0:
        return [(x, y, right, top, right, y), (right, top, x, y, x, top)]
    return [(right, y, x, top, right, top), (x, top, right, y, x, y)]


def roots(plan):
    """Tell the roots of all blocks, from left to right, those of one column upwards."""
    wide, deep, side = plan
    return [shape for i in range(wide) for j in range(deep) for shape in block_roots(i, j, side)]


def middle(shape):
    """Tell the place in the middle of the long side, None where that is no pair of whole numbers."""
    ax, ay, bx, by = shape[:4]
    if (ax + bx) % 2 == 1 or (ay + by) % 2 == 1:
        return None
    return ((ax + bx) // 2, (ay + by) // 2)


def halved(shape):
    """Tell both halves of a triangle, first the one on a's side, then the one on b's."""
    place = middle(shape)
    if place is None:
        raise NoHalf(shape)
    x, y = place
    ax, ay, bx, by, cx, cy = shape
    return [(ax, ay, cx, cy, x, y), (cx, cy, bx, by, x, y)]


def kin(starts):
    """Tell triangles and all that comes of them, each ahead of its halves, all of its first half ahead of the other."""
    told = []
    # What is still to be told stands the other way round here, so that the next one is taken off the end.
    waiting = starts[::-1]
    while waiting:
        shape = waiting.pop()
        told.append(shape)
        if middle(shape) is not None:
            waiting.extend(halved(shape)[::-1])
    return told


def shapes(plan):
    """Tell all triangles of the plan, in the order of the roots and of their kin."""
    return kin(roots(plan))


def turn(ax, ay, bx, by, at):
    """Tell a number above nought where at lies left of the way from a to b, below it right of it, 0 on its line."""
    x, y = at
    return (bx - ax) * (y - ay) - (by - ay) * (x - ax)


def box(shape):
    """Tell the least box with upright sides around a triangle: its left, low, right and high rim."""
    ax, ay, bx, by, cx, cy = shape
    return (min(ax, bx, cx), min(ay, by, cy), max(ax, bx, cx), max(ay, by, cy))


def in_box(shape, at):
    """Tell whether a pair lies in the box around a triangle or on the box's rim."""
    left, low, right, high = box(shape)
    x, y = at
    return left <= x <= right and low <= y <= high


def covers(shape, at):
    """Tell whether a pair of whole numbers lies in a triangle or on its rim."""
    ax, ay, bx, by, cx, cy = shape
    turns = [turn(ax, ay, bx, by, at), turn(bx, by, cx, cy, at), turn(cx, cy, ax, ay, at)]
    # The turns alone would let all of a flat triangle's line in; the box cuts it off at the outer corners.
    return in_box(shape, at) and (min(turns) >= 0 or max(turns) <= 0)


def under(shape):
    """Tell all pairs of whole numbers that a triangle covers, in order."""
    left, low, right, high = box(shape)
    return [(x, y) for x in range(left, right + 1) for y in range(low, high + 1) if covers(shape, (x, y))]


def twin(plan, shape):
    """Tell the triangle on the other side of a triangle's long side, None where that lies outside of the land."""
    ax, ay, bx, by, cx, cy = shape
    x, y = ax + bx - cx, ay + by - cy
    if not in_land(plan, (x, y)):
        return None
    return (bx, by, ax, ay, x, y)
