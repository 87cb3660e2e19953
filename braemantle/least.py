"""The least mesh that is good for a view, papers that show why, and the best mesh of few triangles."""

from braemantle.closing import lacking
from braemantle.errors import TooFew
from braemantle.halves import middle, roots, shapes
from braemantle.lattice import is_corner, need_same, parents
from braemantle.mesh import Mesh
from braemantle.shares import share
from braemantle.views import View


def refused(land, view, mesh):
    """Tell the triangles of a mesh that a view doesn't let."""
    return [shape for shape in mesh.triangles() if not view.lets(land, shape)]


def reasons(land, view):
    """Tell for each cut of the least mesh why each good mesh has it."""
    rows = []
    known = {}
    closed = 0
    bad = refused(land, view, Mesh(land.plan))
    # The smallest triangles cover nothing but their corners, so what is refused always has a middle.
    while bad:
        for shape in bad:
            at = middle(shape)
            if at not in known:
                known[at] = True
                rows.append(("far", at, shape))
        # The rows that come in here ask for their own parents in their turn.
        while closed < len(rows):
            child = rows[closed][1]
            missing = lacking(land.plan, known, child)
            for at in missing:
                known[at] = True
                rows.append(("asked", at, child))
            closed += 1
        bad = refused(land, view, Mesh(land.plan, list(known)))
    return rows


def least(land, view):
    """Tell the good mesh whose cuts each good mesh has."""
    return Mesh(land.plan, [at for word, at, thing in reasons(land, view)])


def is_far(land, view, known, at, shape):
    """Tell whether a cut is the middle of a triangle that is not let, and that the known cuts lead to."""
    if not land.knows(shape) or middle(shape) != at:
        return False
    third = (shape[4], shape[5])
    return (is_corner(land.plan, third) or third in known) and not view.lets(land, shape)


def holds(land, view, known, row):
    """Tell whether a row of a paper holds where the rows ahead of it have the known cuts."""
    word, at, thing = row
    if word == "far":
        return is_far(land, view, known, at, thing)
    return word == "asked" and thing in known and at in parents(land.plan, thing)


def checked(land, view, mesh, rows):
    """Tell whether a list of rows shows that a mesh is the least one that is good for a view."""
    need_same(land.plan, mesh.plan)
    known = {}
    for row in rows:
        if row[1] in known or not holds(land, view, known, row):
            return False
        known[row[1]] = True
    return sorted(known) == mesh.cuts() and not refused(land, view, mesh)


def tolerances(land):
    """Tell nought and all errors of the plan's triangles, each once, from the least one on."""
    errors = [land.gap(shape)[0] for shape in shapes(land.plan)]
    # What stands under an error is a power of two like the ground of its triangle, so all of them divide the greatest.
    whole = max([under for over, under in errors])
    return [share(over, whole) for over in sorted(set([0] + [over * (whole // under) for over, under in errors]))]


def budget(land, *, most):
    """Tell the least tolerance that a mesh of at most so many triangles keeps, that mesh, and the next lesser error."""
    if most < len(roots(land.plan)):
        raise TooFew(most)
    known = tolerances(land)
    low, high = 0, len(known) - 1
    # A greater tolerance never makes more triangles, and the greatest one lets the roots, so halving finds the first.
    while low < high:
        half = (low + high) // 2
        if len(least(land, View(known[half]))) <= most:
            high = half
        else:
            low = half + 1
    mesh = least(land, View(known[low]))
    return (known[low], mesh, known[low - 1] if low > 0 else None)
