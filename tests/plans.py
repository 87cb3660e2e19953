"""What several tests share: all plans, and a check of a function's signature."""

import inspect

PLANS = [(wide, deep, side) for wide in (1, 2, 3) for deep in (1, 2, 3) for side in (2, 4, 8)]

GREAT = 10 ** 27

# More figures than Python writes out by itself: an error that wrote this into its words would fail.
VAST = 10 ** 5000


def places(plan):
    """All places of a plan, in order, as the document tells them."""
    wide, deep, side = plan
    return [(x, y) for x in range(wide * side + 1) for y in range(deep * side + 1)]


def beyond(plan):
    """Pairs beyond each rim of a plan, by 1 and by great numbers."""
    wide, deep, side = plan
    right, top = wide * side, deep * side
    pairs = []
    for by in (1, 2, side, GREAT, VAST):
        pairs += [(-by, y) for y in (0, 1, top)] + [(right + by, y) for y in (0, 1, top)]
        pairs += [(x, -by) for x in (0, 1, right)] + [(x, top + by) for x in (0, 1, right)]
        pairs += [(-by, -by), (right + by, top + by), (-by, top + by), (right + by, -by)]
    return pairs


def signature(function):
    """A function's parameters as rows of name, whether by name alone, and default."""
    rows = []
    for each in inspect.signature(function).parameters.values():
        alone = each.kind is inspect.Parameter.KEYWORD_ONLY
        assert alone or each.kind is inspect.Parameter.POSITIONAL_OR_KEYWORD
        rows.append((each.name, alone, each.default))
    return rows


def plain(*names):
    """What signature tells of parameters without defaults, each by place or by name."""
    return [(name, False, inspect.Parameter.empty) for name in names]
