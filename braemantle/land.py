"""The land: whole heights at all places, the deeds that change them, and the errors of its triangles."""

from braemantle.errors import BadHeight, BadSize, NothingLeft, NoTriangle
from braemantle.halves import covers, halved, kin, middle, roots, shapes, under
from braemantle.lattice import is_whole, need_place, places
from braemantle.shares import less, share

HIGH = 1000


def need_height(at, high):
    """Refuse a height that is no whole number or goes beyond."""
    if not is_whole(high) or high < -HIGH or high > HIGH:
        raise BadHeight(at, high)


def need_size(things, size):
    """Refuse a list that has more or fewer things than that."""
    if len(things) != size:
        raise BadSize(len(things))


def read_rows(plan, rows):
    """Tell the heights that stand in handed rows, by places; refuse rows that are none of a land of the plan."""
    wide, deep, side = plan
    need_size(rows, deep * side + 1)
    for row in rows:
        need_size(row, wide * side + 1)
    heights = {}
    for y, row in enumerate(rows):
        for x, high in enumerate(row):
            need_height((x, y), high)
            heights[(x, y)] = high
    return heights


def between(one, other):
    """Tell all places of the box between two opposite corners of it, in order."""
    left, right = sorted([one[0], other[0]])
    low, top = sorted([one[1], other[1]])
    return [(x, y) for x in range(left, right + 1) for y in range(low, top + 1)]


def touched(starts, changed):
    """Tell those of some triangles and of their kin that cover one of the places, in the order of shapes."""
    told = []
    for shape in starts:
        # A half covers nothing that the whole doesn't, so only what is found here is looked for further down.
        found = [at for at in changed if covers(shape, at)]
        if found:
            told.append(shape)
            if middle(shape) is not None:
                told.extend(touched(halved(shape), found))
    return told


def plane(shape, highs):
    """Tell the plane through heights above the corners a, b, c as whole numbers (rise, climb, base, whole).

    Its height at (x, y) is rise * x + climb * y + base, divided by whole.
    """
    ax, ay, bx, by, cx, cy = shape
    start, first, second = highs
    whole = (bx - ax) * (cy - ay) - (by - ay) * (cx - ax)
    rise = (first - start) * (cy - ay) - (second - start) * (by - ay)
    climb = (second - start) * (bx - ax) - (first - start) * (cx - ax)
    return (rise, climb, start * whole - rise * ax - climb * ay, whole)


class Land:
    """A land of a plan, with what it was before kept for undo and redo."""

    def __init__(self, plan, rows=None):
        if rows is None:
            self.heights = {at: 0 for at in places(plan)}
        else:
            self.heights = read_rows(plan, rows)
        self.plan = plan
        self.edition = 0
        self.tries = 0
        self.dates = {}
        self.done = []
        self.undone = []
        # A gap is None here as long as nobody asked for it since a place under its triangle changed.
        self.gaps = {shape: None for shape in shapes(plan)}

    def __eq__(self, other):
        return isinstance(other, Land) and self.plan == other.plan and self.heights == other.heights

    def height(self, at):
        """Tell the height of a place."""
        need_place(self.plan, at)
        return self.heights[at]

    def rows(self):
        """Tell all heights, in lists as they are handed in."""
        wide, deep, side = self.plan
        return [[self.heights[(x, y)] for x in range(wide * side + 1)] for y in range(deep * side + 1)]

    def since(self, at):
        """Tell the edition with which the height of a place was last made another one, 0 where never."""
        need_place(self.plan, at)
        return self.dates.get(at, 0)

    def put(self, at, high):
        """Give a place a height; tell the triangles whose gap became another one."""
        return self.edit([(at, high)])

    def edit(self, changes):
        """Give places heights, one after the other; tell the triangles whose gap became another one."""
        self.tries += 1
        news = {}
        for at, high in changes:
            need_place(self.plan, at)
            need_height(at, high)
            news[at] = high
        return self.act(news)

    def lift(self, one, other, *, by=1):
        """Make all heights of a box greater; tell the triangles whose gap became another one."""
        self.tries += 1
        need_place(self.plan, one)
        need_place(self.plan, other)
        news = {}
        for at in between(one, other):
            high = self.heights[at] + by
            need_height(at, high)
            news[at] = high
        return self.act(news)

    def undo(self):
        """Take the last deed back; tell the triangles whose gap became another one."""
        self.tries += 1
        if not self.done:
            raise NothingLeft("no deed is left that could be taken back")
        deed = self.done.pop()
        self.undone.append(deed)
        return self.give(deed[0])

    def redo(self):
        """Do the last deed again that was taken back; tell the triangles whose gap became another one."""
        self.tries += 1
        if not self.undone:
            raise NothingLeft("no deed is left that could be done again")
        deed = self.undone.pop()
        self.done.append(deed)
        return self.give(deed[1])

    def act(self, news):
        """Do a new deed, which gives places heights that are known to be let."""
        olds = {at: self.heights[at] for at in news}
        self.done.append((olds, news))
        self.undone.clear()
        return self.give(news)

    def give(self, highs):
        """Give places heights as a new edition; tell the triangles whose gap became another one."""
        self.edition += 1
        changed = [at for at in highs if highs[at] != self.heights[at]]
        near = touched(roots(self.plan), changed)
        before = [self.gap(shape) for shape in near]
        for at in changed:
            self.heights[at] = highs[at]
            self.dates[at] = self.edition
        for shape in near:
            self.gaps[shape] = None
        return [shape for shape, gap in zip(near, before) if self.gap(shape) != gap]

    def knows(self, shape):
        """Tell whether a triangle is one of the plan's."""
        return shape in self.gaps

    def need_triangle(self, shape):
        """Refuse a triangle that is none of the plan's."""
        if not self.knows(shape):
            raise NoTriangle(shape)

    def highs(self, shape):
        """Tell the heights of a triangle's corners a, b and c."""
        self.need_triangle(shape)
        ax, ay, bx, by, cx, cy = shape
        return [self.heights[at] for at in ((ax, ay), (bx, by), (cx, cy))]

    def flat(self, shape):
        """Tell the plane through the heights of a triangle's corners, as plane does."""
        return plane(shape, self.highs(shape))

    def gap(self, shape):
        """Tell the error of a triangle, and the first place in order that is so far from its plane."""
        self.need_triangle(shape)
        if self.gaps[shape] is None:
            self.gaps[shape] = self.reckoned(shape)
        return self.gaps[shape]

    def reckoned(self, shape):
        """Reckon the gap of a triangle out of the heights."""
        rise, climb, base, whole = self.flat(shape)
        greatest, where = -1, None
        for x, y in under(shape):
            distance = abs(self.heights[(x, y)] * whole - (rise * x + climb * y + base))
            if distance > greatest:
                greatest, where = distance, (x, y)
        return (share(greatest, abs(whole)), where)

    def bound(self, shape):
        """Tell the greatest error of a triangle and of all that comes of it."""
        greatest = self.gap(shape)[0]
        for each in kin([shape]):
            error = self.gap(each)[0]
            if less(greatest, error):
                greatest = error
        return greatest
