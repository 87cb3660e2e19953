"""What several tests share: all plans, plain models of what the document tells, and checks."""

import functools
import inspect
import random
import unittest
from fractions import Fraction

from braemantle.land import Land
from braemantle.mesh import Mesh

PLANS = [(wide, deep, side) for wide in (1, 2, 3) for deep in (1, 2, 3) for side in (2, 4, 8)]

GREAT = 10 ** 27

# More figures than Python writes out by itself: an error that wrote this into its words would fail.
VAST = 10 ** 5000


def places(plan):
    """All places of a plan, in order, as the document tells them."""
    wide, deep, side = plan
    return [(x, y) for x in range(wide * side + 1) for y in range(deep * side + 1)]


def beyond(plan):
    """Pairs beyond each rim of a plan, by 1 and by great numbers."""
    wide, deep, side = plan
    right, top = wide * side, deep * side
    pairs = []
    for by in (1, 2, side, GREAT, VAST):
        pairs += [(-by, y) for y in (0, 1, top)] + [(right + by, y) for y in (0, 1, top)]
        pairs += [(x, -by) for x in (0, 1, right)] + [(x, top + by) for x in (0, 1, right)]
        pairs += [(-by, -by), (right + by, top + by), (-by, top + by), (right + by, -by)]
    return pairs


def signature(function):
    """A function's parameters as rows of name, whether by name alone, and default."""
    rows = []
    for each in inspect.signature(function).parameters.values():
        alone = each.kind is inspect.Parameter.KEYWORD_ONLY
        assert alone or each.kind is inspect.Parameter.POSITIONAL_OR_KEYWORD
        rows.append((each.name, alone, each.default))
    return rows


def plain(*names):
    """What signature tells of parameters without defaults, each by place or by name."""
    return [(name, False, inspect.Parameter.empty) for name in names]


def own_roots(plan):
    wide, deep, side = plan
    rows = []
    for i in range(wide):
        for j in range(deep):
            x, y = i * side, j * side
            if (i + j) % 2 == 0:
                rows.append((x, y, x + side, y + side, x + side, y))
                rows.append((x + side, y + side, x, y, x, y + side))
            else:
                rows.append((x + side, y, x, y + side, x + side, y + side))
                rows.append((x, y + side, x + side, y, x, y))
    return rows


def own_kin(shape):
    """A triangle and all that comes of it, as point 11 tells it."""
    ax, ay, bx, by, cx, cy = shape
    if (ax + bx) % 2 or (ay + by) % 2:
        return [shape]
    x, y = (ax + bx) // 2, (ay + by) // 2
    return [shape] + own_kin((ax, ay, cx, cy, x, y)) + own_kin((cx, cy, bx, by, x, y))


@functools.lru_cache(maxsize=None)
def own_shapes(plan):
    return tuple([shape for root in own_roots(plan) for shape in own_kin(root)])


def area(p, q, r):
    return abs((q[0] - p[0]) * (r[1] - p[1]) - (q[1] - p[1]) * (r[0] - p[0]))


def on_side(p, q, at):
    if area(p, q, at):
        return False
    return min(p[0], q[0]) <= at[0] <= max(p[0], q[0]) and min(p[1], q[1]) <= at[1] <= max(p[1], q[1])


def own_covers(shape, at):
    """A pair in a proper triangle parts it into three whose areas make up its own."""
    a, b, c = shape[0:2], shape[2:4], shape[4:6]
    if area(a, b, c):
        return area(a, b, at) + area(b, c, at) + area(c, a, at) == area(a, b, c)
    return on_side(a, b, at) or on_side(b, c, at) or on_side(c, a, at)


@functools.lru_cache(maxsize=None)
def kin_of_cuts(plan):
    """Two dicts, of the parents and of the children of all cuts of a plan.

    The parents of a cut are the cuts among the third corners of the triangles in the middle of whose long side it is.
    """
    side = plan[2]
    every = [at for at in places(plan) if at[0] % side or at[1] % side]
    parents = {at: [] for at in every}
    for ax, ay, bx, by, cx, cy in own_shapes(plan):
        at = ((ax + bx) // 2, (ay + by) // 2)
        if (ax + bx) % 2 == 0 and (ay + by) % 2 == 0 and (cx, cy) in parents and (cx, cy) not in parents[at]:
            parents[at] = sorted(parents[at] + [(cx, cy)])
    children = {at: [child for child in every if at in parents[child]] for at in every}
    return parents, children


@functools.lru_cache(maxsize=None)
def own_levels(plan):
    """The levels of all cuts, from the cuts without parents down."""
    parents = kin_of_cuts(plan)[0]
    levels = {at: 0 for at in parents if not parents[at]}
    while len(levels) < len(parents):
        waiting = [at for at in parents if at not in levels]
        levels.update({at: levels[parents[at][0]] + 1 for at in waiting if parents[at][0] in levels})
    return levels


def own_order(plan, cuts):
    """The sending order."""
    levels = own_levels(plan)
    return sorted(set(cuts), key=lambda at: (levels[at], at))


def own_above(plan, cuts):
    parents = kin_of_cuts(plan)[0]
    known = set(cuts)
    while True:
        more = {place for at in known for place in parents[at]} - known
        if not more:
            return sorted(known)
        known |= more


def own_within(plan, cuts):
    parents = kin_of_cuts(plan)[0]
    known = set(cuts)
    while True:
        fewer = {at for at in known if all(place in known for place in parents[at])}
        if fewer == known:
            return sorted(known)
        known = fewer


def own_crack(plan, cuts):
    parents = kin_of_cuts(plan)[0]
    for at in sorted(cuts):
        for place in parents[at]:
            if place not in cuts:
                return (at, place)
    return None


def some_cuts(plan, many, chance):
    """Lists of cuts of a plan: none, all, and random ones from sparse to dense, some cuts twice, in any order."""
    side = plan[2]
    every = [at for at in places(plan) if at[0] % side or at[1] % side]
    told = [[], list(every), every[::-1]]
    for number in range(many):
        some = [at for at in every if chance.random() * (many + 1) < number + 1]
        some += chance.sample(some, min(len(some), 3))
        chance.shuffle(some)
        told.append(some)
    return told


def closed_sets(plan, many, chance):
    """Closed sets of a plan, each as a list in order: none, all, and random ones."""
    told = []
    for number, some in enumerate(some_cuts(plan, many, chance)):
        told.append(own_above(plan, some[:max(1, len(some) // 12)]) if number % 2 else own_within(plan, some))
    return told


def own_triangles(plan, cuts):
    """The triangles of a mesh: going down from the roots, point 17."""
    kept = set(cuts)

    def down(shape):
        ax, ay, bx, by, cx, cy = shape
        x, y = (ax + bx) // 2, (ay + by) // 2
        if (ax + bx) % 2 or (ay + by) % 2 or (x, y) not in kept:
            return [shape]
        return down((ax, ay, cx, cy, x, y)) + down((cx, cy, bx, by, x, y))

    return [shape for root in own_roots(plan) for shape in down(root)]


def random_rows(plan, chance, high=1000):
    wide, deep, side = plan
    return [[chance.randint(-high, high) for _ in range(wide * side + 1)] for _ in range(deep * side + 1)]


def seeded(*things):
    """A source of chance that is the same in each run."""
    return random.Random(repr(things))


def plane_at(shape, highs, at):
    """The height at a spot of the plane through heights above a triangle's corners, weighed by the areas across."""
    a, b, c = shape[0:2], shape[2:4], shape[4:6]

    def turned(p, q, r):
        return (q[0] - p[0]) * (r[1] - p[1]) - (q[1] - p[1]) * (r[0] - p[0])

    parts = (turned(at, b, c), turned(at, c, a), turned(at, a, b))
    return sum(Fraction(part) * high for part, high in zip(parts, highs)) / turned(a, b, c)


def corner_highs(rows, shape):
    return [rows[y][x] for x, y in (shape[0:2], shape[2:4], shape[4:6])]


def pair(number):
    """A fraction as a share."""
    number = Fraction(number)
    return (number.numerator, number.denominator)


@functools.lru_cache(maxsize=None)
def own_under(shape):
    xs, ys = shape[0::2], shape[1::2]
    near = [(x, y) for x in range(min(xs), max(xs) + 1) for y in range(min(ys), max(ys) + 1)]
    return [at for at in near if own_covers(shape, at)]


def own_gap(rows, shape):
    """The gap of a triangle by point 26, its error as a fraction."""
    highs = corner_highs(rows, shape)
    distances = {(x, y): abs(rows[y][x] - plane_at(shape, highs, (x, y))) for x, y in own_under(shape)}
    error = max(distances.values())
    return (error, min(at for at in distances if distances[at] == error))


def own_gaps(plan, rows):
    return {shape: own_gap(rows, shape) for shape in own_shapes(plan)}


def three(shape):
    """The corners a, b and c of a triangle."""
    return [shape[0:2], shape[2:4], shape[4:6]]


def every_cut(plan):
    return [at for at in places(plan) if at[0] % plan[2] or at[1] % plan[2]]


def land_of(plan, word, high=1000):
    """A land with random heights, the same ones in each run."""
    return Land(plan, random_rows(plan, seeded(word, plan), high))


def meshes(plan, many, word):
    """Meshes of a plan, the same ones in each run: one without a cut, one with all, and random ones."""
    return [Mesh(plan, cuts) for cuts in closed_sets(plan, many, seeded(word, plan))]


class Case(unittest.TestCase):
    def refused(self, kind, values, function, *things, **named):
        """A call is refused by just this class, with just these values, each of its own kind."""
        with self.assertRaises(kind) as caught:
            function(*things, **named)
        self.assertIs(type(caught.exception), kind)
        for name, value in values.items():
            told = getattr(caught.exception, name)
            self.assertTrue(told == value and type(told) is type(value), (name, kind))


def own_limit(tolerance, boxes, shape):
    """The limit of a triangle by point 33, all tolerances as fractions."""

    def meet(ones, others):
        """Two stretches have something in common where the later beginning is no later than the earlier end."""
        return max(min(ones), min(others)) <= min(max(ones), max(others))

    found = [each for x, y, xx, yy, each in boxes if meet((x, xx), shape[0::2]) and meet((y, yy), shape[1::2])]
    return min(found) if found else tolerance


def own_far(eye, shape):
    if eye is None:
        return 1
    return 1 + min((eye[0] - x) ** 2 + (eye[1] - y) ** 2 for x, y in three(shape))


def own_lets(error, tolerance, eye, boxes, shape):
    return error * error <= own_far(eye, shape) * own_limit(tolerance, boxes, shape) ** 2


def some_views(plan, chance):
    """Things to make views of: tolerance, eye and boxes, the tolerances as fractions."""
    wide, deep, side = plan
    right, top = wide * side, deep * side

    def tolerance():
        return Fraction(chance.choice([0, 1, 3, 10, 40, 150, 400]), chance.choice([1, 1, 2, 3, 7]))

    def box():
        xs = [chance.randint(-2, right + 2) for _ in range(2)]
        ys = [chance.randint(-2, top + 2) for _ in range(2)]
        return (xs[0], ys[0], xs[1], ys[1], tolerance())

    eyes = [None, (0, 0), (right, top), (right // 2, 1), (-3, top + 5)]
    return [(tolerance(), eye, [box() for _ in range(many)]) for eye in eyes for many in (0, 1, 3)]


def handed_boxes(boxes):
    """Boxes with fractions as boxes that are handed in: whole tolerances as numbers, others as shares."""
    return [box[:4] + (int(box[4]) if box[4].denominator == 1 else pair(box[4]),) for box in boxes]
