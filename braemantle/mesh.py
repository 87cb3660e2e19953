"""Meshes: what is left of the roots where each triangle whose middle is cut gives way to its halves."""

from braemantle.closing import crack, gathered
from braemantle.errors import Cracked, NotIn, NoTriangle, Twice
from braemantle.halves import halved, middle, roots
from braemantle.lattice import is_corner, need_cut, need_same


def sides(shape):
    """Tell the sides of a triangle from a to b, b to c and c to a, each as the pair of its ends in order."""
    ax, ay, bx, by, cx, cy = shape
    ways = [((ax, ay), (bx, by)), ((bx, by), (cx, cy)), ((cx, cy), (ax, ay))]
    return [(min(start, goal), max(start, goal)) for start, goal in ways]


class Mesh:
    """The mesh of a closed set of cuts; it never changes."""

    def __init__(self, plan, cuts=()):
        cracked = crack(plan, cuts)
        if cracked is not None:
            raise Cracked(cracked[0], cracked[1])
        self.plan = plan
        self.marks = gathered(plan, cuts)

    def __len__(self):
        return len(self.triangles())

    def __eq__(self, other):
        return isinstance(other, Mesh) and self.plan == other.plan and self.marks == other.marks

    def __str__(self):
        if not self.marks:
            return "-"
        return " ".join([f"{x},{y}" for x, y in self.marks])

    def __repr__(self):
        return f"Mesh({len(self.marks)})"

    def triangles(self):
        """Tell the triangles, in the order in which shapes has them."""
        told = []
        # What is still to be told stands the other way round here, so that the next one is taken off the end.
        waiting = roots(self.plan)[::-1]
        while waiting:
            shape = waiting.pop()
            if middle(shape) in self.marks:
                waiting.extend(halved(shape)[::-1])
            else:
                told.append(shape)
        return told

    def cuts(self):
        """Tell the cuts in order."""
        return list(self.marks)

    def has(self, at):
        """Tell whether a place is a corner of blocks or one of the cuts."""
        return is_corner(self.plan, at) or at in self.marks

    def cut(self, at):
        """Tell a new mesh with one cut more."""
        if at in self.marks:
            raise Twice(at)
        # All other cuts have their parents, so it is this one that the new mesh is refused for.
        return Mesh(self.plan, self.cuts() + [at])

    def mend(self, at):
        """Tell a new mesh with one cut fewer."""
        need_cut(self.plan, at)
        if at not in self.marks:
            raise NotIn(at)
        # Only children of this cut can lack a parent then, so it is the first of them that the new mesh is refused for.
        return Mesh(self.plan, [place for place in self.marks if place != at])

    def joined(self, other):
        """Tell the mesh with the cuts of both meshes."""
        need_same(self.plan, other.plan)
        return Mesh(self.plan, self.cuts() + other.cuts())

    def met(self, other):
        """Tell the mesh with the cuts that both meshes have."""
        need_same(self.plan, other.plan)
        return Mesh(self.plan, [at for at in self.marks if at in other.marks])

    def beside(self, shape):
        """Tell the triangles beyond the three sides of a triangle, None where a side lies on the land's rim."""
        known = self.triangles()
        if shape not in known:
            raise NoTriangle(shape)
        # Without a crack two triangles touch along whole sides alone, so the ends of a side lead to both.
        beyond = {side: each for each in known if each != shape for side in sides(each)}
        return [beyond.get(side) for side in sides(shape)]
