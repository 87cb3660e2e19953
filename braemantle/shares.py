"""Shares: exact parts of whole numbers, as tuples (over, under) in lowest terms."""

from braemantle.errors import NoShare


def share(over, under):
    """Tell two whole numbers as a share."""
    if under == 0:
        raise NoShare("no share has nought under it")
    # The divisor bears the sign of under, so that what is left under is above nought.
    divisor = common(abs(over), abs(under))
    if under < 0:
        divisor = -divisor
    return (over // divisor, under // divisor)


def common(one, other):
    """Tell the greatest number that divides both, neither of them below nought."""
    while other != 0:
        one, other = other, one % other
    return one


def plus(one, other):
    """Tell the sum of two shares."""
    return share(one[0] * other[1] + other[0] * one[1], one[1] * other[1])


def minus(one, other):
    """Tell what is left of a share when another one is taken away."""
    return share(one[0] * other[1] - other[0] * one[1], one[1] * other[1])


def times(one, other):
    """Tell the product of two shares."""
    return share(one[0] * other[0], one[1] * other[1])


def less(one, other):
    """Tell whether the first share is less than the second one."""
    return one[0] * other[1] < other[0] * one[1]
