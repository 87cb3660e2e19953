"""From mesh to mesh: deeds that lead from one mesh to another one, none of them over a crack."""

from braemantle.lattice import level, need_same
from braemantle.sending import order


def way(mesh, other, *, over=False):
    """Tell the deeds that lead from one mesh to another one; where over is True all that is cut comes first."""
    need_same(mesh.plan, other.plan)
    plan = mesh.plan
    surplus = [at for at in mesh.cuts() if not other.has(at)]
    lack = [at for at in other.cuts() if not mesh.has(at)]
    mended = [("mend", at) for at in sorted(surplus, key=lambda place: (-level(plan, place), place))]
    added = [("cut", at) for at in order(plan, lack)]
    return added + mended if over else mended + added


def walk(mesh, deeds):
    """Tell all meshes on the way, the first one the mesh itself."""
    told = [mesh]
    for word, at in deeds:
        last = told[-1]
        told.append(last.cut(at) if word == "cut" else last.mend(at))
    return told
