"""Views: how much error is let where."""

from braemantle.errors import BadView
from braemantle.halves import box
from braemantle.lattice import is_whole
from braemantle.shares import less


def read_tolerance(tolerance):
    """Tell a tolerance, a whole number or a share, as a share; refuse one that is less than nought."""
    told = (tolerance, 1) if is_whole(tolerance) else tolerance
    if less(told, (0, 1)):
        raise BadView(tolerance)
    return told


def read_box(handed):
    """Tell a box as its left, low, right and top rim and its tolerance as a share."""
    x, y, xx, yy, tolerance = handed
    return (min(x, xx), min(y, yy), max(x, xx), max(y, yy), read_tolerance(tolerance))


class View:
    """A tolerance for the whole land, others for boxes, and an eye from which on error counts less; never changes."""

    def __init__(self, tolerance, *, eye=None, boxes=()):
        self.tolerance = read_tolerance(tolerance)
        self.eye = eye
        self.boxes = [read_box(handed) for handed in boxes]

    def limit(self, shape):
        """Tell the least tolerance of the boxes that touch a triangle, the view's own where none does."""
        left, low, right, top = box(shape)
        least = None
        for west, south, east, north, tolerance in self.boxes:
            touches = west <= right and left <= east and south <= top and low <= north
            if touches and (least is None or less(tolerance, least)):
                least = tolerance
        return self.tolerance if least is None else least

    def far(self, shape):
        """Tell 1 more than the square of the way from the eye to a triangle's next corner; 1 without an eye."""
        if self.eye is None:
            return 1
        x, y = self.eye
        ax, ay, bx, by, cx, cy = shape
        return 1 + min([(px - x) ** 2 + (py - y) ** 2 for px, py in ((ax, ay), (bx, by), (cx, cy))])

    def lets(self, land, shape):
        """Tell whether a triangle's error in a land, as it is now, is small enough."""
        over, under = land.gap(shape)[0]
        most, part = self.limit(shape)
        # Both sides of the comparison are made so many times as great that they are whole numbers.
        return (over * part) ** 2 <= self.far(shape) * (most * under) ** 2
