"""What holds over the whole program: the interface, its refusals, and that nothing is held in common."""

import copy
import importlib
import inspect
import unittest

from braemantle import errors
from braemantle.closing import lacks, why
from braemantle.desk import Desk
from braemantle.halves import halved
from braemantle.land import Land
from braemantle.lattice import corners, planned, step
from braemantle.least import budget, reasons
from braemantle.link import Link
from braemantle.mesh import Mesh
from braemantle.moves import walk, way
from braemantle.pages import page, read_code, read_page
from braemantle.sending import regain, rests, sent
from braemantle.shares import share
from braemantle.spots import height_at, off
from braemantle.viewer import Viewer
from braemantle.views import View
from plans import Case, random_rows, seeded

PLAN = (2, 1, 4)
ROOT = (0, 0, 4, 4, 4, 0)
CUTS = [(4, 2), (2, 2), (6, 2), (2, 0), (2, 2)]
ROWS = random_rows(PLAN, seeded("whole"), 50)


class World:
    """Fresh objects of each kind, the same ones each time."""

    def __init__(self):
        self.rows = copy.deepcopy(ROWS)
        self.land = Land(PLAN, self.rows)
        self.land.put((1, 1), 40)
        self.land.put((3, 2), -40)
        self.land.undo()
        self.mesh, self.other = Mesh(PLAN, CUTS), Mesh(PLAN, [(6, 2), (6, 0)])
        self.view = View(9, eye=(1, 3), boxes=[(0, 0, 1, 1, (5, 2))])
        self.heights = {at: self.land.height(at) for at in corners(PLAN)}
        self.viewer = Viewer(PLAN, self.heights, room=5)
        self.viewer.want([(2, 2), (2, 0), (6, 2)])
        self.viewer.take(((2, 0), 7, 1))
        self.viewer.take(((4, 2), 8, 1))
        self.link = Link(self.land)
        self.link.send((2, 2))
        self.link.send((0, 0))
        self.desk = Desk()
        self.desk.do("land 1 1 2")


# Each thing of the interface: what is handed in by place or by name, then what is handed in by its name alone.
INTERFACE = {
    "shares.share": (["over", "under"], []), "shares.plus": (["one", "other"], []),
    "shares.minus": (["one", "other"], []), "shares.times": (["one", "other"], []),
    "shares.less": (["one", "other"], []),
    "lattice.planned": (["wide", "deep"], ["side"]), "lattice.corners": (["plan"], []), "lattice.cuts": (["plan"], []),
    "lattice.is_corner": (["plan", "at"], []), "lattice.step": (["plan", "at"], []),
    "lattice.level": (["plan", "at"], []), "lattice.ends": (["plan", "at"], []),
    "lattice.parents": (["plan", "at"], []), "lattice.children": (["plan", "at"], []),
    "halves.roots": (["plan"], []), "halves.shapes": (["plan"], []), "halves.halved": (["shape"], []),
    "halves.middle": (["shape"], []), "halves.covers": (["shape", "at"], []), "halves.under": (["shape"], []),
    "halves.twin": (["plan", "shape"], []),
    "closing.crack": (["plan", "cuts"], []), "closing.above": (["plan", "cuts"], []),
    "closing.within": (["plan", "cuts"], []), "closing.why": (["plan", "cuts", "at"], []),
    "closing.lacks": (["plan", "cuts", "at"], []),
    "mesh.Mesh": (["plan", "cuts"], []), "mesh.Mesh.triangles": ([], []), "mesh.Mesh.cuts": ([], []),
    "mesh.Mesh.has": (["at"], []), "mesh.Mesh.cut": (["at"], []), "mesh.Mesh.mend": (["at"], []),
    "mesh.Mesh.joined": (["other"], []), "mesh.Mesh.met": (["other"], []), "mesh.Mesh.beside": (["shape"], []),
    "land.Land": (["plan", "rows"], []), "land.Land.height": (["at"], []), "land.Land.rows": ([], []),
    "land.Land.put": (["at", "high"], []), "land.Land.edit": (["changes"], []),
    "land.Land.lift": (["one", "other"], ["by"]), "land.Land.undo": ([], []), "land.Land.redo": ([], []),
    "land.Land.since": (["at"], []), "land.Land.gap": (["shape"], []), "land.Land.bound": (["shape"], []),
    "land.Land.knows": (["shape"], []),
    "spots.height_at": (["land", "mesh", "spot"], []), "spots.off": (["land", "mesh"], []),
    "spots.apart": (["land", "mesh", "other"], []), "spots.slope": (["land", "shape"], []),
    "spots.volume": (["land", "mesh"], []), "spots.slide": (["land", "at", "part"], []),
    "views.View": (["tolerance"], ["eye", "boxes"]), "views.View.limit": (["shape"], []),
    "views.View.far": (["shape"], []), "views.View.lets": (["land", "shape"], []),
    "least.least": (["land", "view"], []), "least.reasons": (["land", "view"], []),
    "least.checked": (["land", "view", "mesh", "rows"], []), "least.budget": (["land"], ["most"]),
    "moves.way": (["mesh", "other"], ["over"]), "moves.walk": (["mesh", "deeds"], []),
    "sending.order": (["plan", "cuts"], []), "sending.rests": (["land", "cuts"], []),
    "sending.regain": (["plan", "heights", "rows"], []), "sending.sent": (["plan", "wants"], ["rate", "ahead"]),
    "sending.least_rate": (["plan", "wants"], ["ahead"]),
    "viewer.Viewer": (["plan", "heights"], ["room"]), "viewer.Viewer.take": (["record"], []),
    "viewer.Viewer.want": (["cuts"], []), "viewer.Viewer.wanted": ([], []), "viewer.Viewer.missing": ([], []),
    "viewer.Viewer.held": (["at"], []), "viewer.Viewer.shown": ([], []), "viewer.Viewer.height": (["at"], []),
    "viewer.Viewer.since": (["at"], []),
    "link.Link": (["land"], []), "link.Link.send": (["at"], []), "link.Link.double": (["number"], []),
    "link.Link.lose": (["number"], []), "link.Link.bring": (["number", "viewer"], []), "link.Link.air": ([], []),
    "link.Link.stale": (["viewer"], []), "link.Link.again": (["viewer"], []),
    "pages.page": (["land"], []), "pages.read_page": (["text"], []), "pages.code": (["mesh"], []),
    "pages.read_code": (["text"], []),
    "desk.Desk": ([], []), "desk.Desk.do": (["line"], []),
}

# What is handed in for each name, wherever nothing else is told in SPECIAL.
COMMON = {
    "plan": lambda world: PLAN, "at": lambda world: (2, 0), "shape": lambda world: ROOT,
    "cuts": lambda world: list(CUTS), "land": lambda world: world.land, "mesh": lambda world: world.mesh,
    "view": lambda world: world.view, "viewer": lambda world: world.viewer, "over": lambda world: True,
    "rate": lambda world: 3, "ahead": lambda world: 2, "most": lambda world: 9, "high": lambda world: -5,
    "wants": lambda world: [[(2, 2)], list(CUTS), []], "heights": lambda world: world.heights,
    "number": lambda world: 1, "by": lambda world: -2, "side": lambda world: 8, "part": lambda world: (1, 3),
    "changes": lambda world: [((1, 1), 3), ((2, 0), -9), ((1, 1), 4)], "spot": lambda world: ((1, 2), (7, 3)),
    "other": lambda world: world.other, "room": lambda world: 4, "eye": lambda world: (3, 9),
    "boxes": lambda world: [(0, 0, 2, 2, 3)], "tolerance": lambda world: (7, 2),
    "record": lambda world: ((2, 2), 12, 3), "line": lambda world: "put 1 1 9", "wide": lambda world: 3,
    "deep": lambda world: 2, "deeds": lambda world: way(world.mesh, world.other),
}
SHARES = {"one": lambda world: (1, 3), "other": lambda world: (-5, 7)}
SPECIAL = {
    "shares.share": {"over": lambda world: 6, "under": lambda world: -4}, "shares.plus": SHARES,
    "shares.minus": SHARES, "shares.times": SHARES, "shares.less": SHARES,
    "closing.lacks": {"cuts": lambda world: [(2, 0)]}, "closing.why": {"at": lambda world: (2, 2)},
    "mesh.Mesh.cut": {"at": lambda world: (0, 2)}, "mesh.Mesh.mend": {"at": lambda world: (2, 0)},
    "mesh.Mesh.beside": {"shape": lambda world: world.mesh.triangles()[1]},
    "land.Land": {"rows": lambda world: world.rows},
    "land.Land.lift": {"one": lambda world: (3, 4), "other": lambda world: (1, 0)},
    "least.checked": {"mesh": lambda world: world.mesh, "rows": lambda world: reasons(world.land, world.view)},
    "sending.regain": {"rows": lambda world: rests(world.land, CUTS)},
    "pages.read_page": {"text": lambda world: page(world.land)}, "pages.read_code": {"text": lambda world: "1 1 2 14"},
}


def things_for(name, world):
    """What is handed in for a call of a thing of the interface, by names."""
    placed, alone = INTERFACE[name]
    makers = dict(COMMON, **SPECIAL.get(name, {}))
    return {each: makers[each](world) for each in placed + alone}


def door(name, world):
    """The function, class or bound method behind a name of the interface."""
    module, *rest = name.split(".")
    if len(rest) == 2:
        return getattr(getattr(world, rest[0].lower()), rest[1])
    return getattr(importlib.import_module("braemantle." + module), rest[0])


def inside(thing):
    """The values that an object of the program's own keeps; None for any other thing."""
    if type(thing).__module__.startswith("braemantle."):
        return vars(thing)
    return None


def shape_of(thing):
    """A thing as something that can be compared: objects by their kind and by all that they keep."""
    if inside(thing) is not None:
        # Gaps are reckoned when they are asked for, so they may be there or not.
        return (type(thing).__name__, {key: shape_of(value) for key, value in vars(thing).items() if key != "gaps"})
    if isinstance(thing, dict):
        return {key: shape_of(value) for key, value in thing.items()}
    if isinstance(thing, (list, tuple)):
        return type(thing)([shape_of(each) for each in thing])
    return thing


def holders(thing, deep):
    """The lists and dicts within a thing, by their ids; where deep, also those within objects of the program's own."""
    if isinstance(thing, (list, tuple)):
        parts, own = list(thing), isinstance(thing, list)
    elif isinstance(thing, dict):
        parts, own = list(thing.values()) + list(thing), True
    elif deep and inside(thing) is not None:
        parts, own = list(vars(thing).values()), False
    else:
        return {}
    found = {id(thing): thing} if own else {}
    for part in parts:
        found.update(holders(part, deep))
    return found


class InterfaceTest(Case):
    def test_parameters(self):
        for name, (placed, alone) in INTERFACE.items():
            parameters = inspect.signature(door(name, World())).parameters.values()
            self.assertEqual([each.name for each in parameters if each.kind is each.POSITIONAL_OR_KEYWORD], placed)
            self.assertEqual([each.name for each in parameters if each.kind is each.KEYWORD_ONLY], alone)
            self.assertEqual(len(parameters), len(placed + alone), name)

    def test_by_names_in_another_order(self):
        for name, (placed, alone) in INTERFACE.items():
            one, other = World(), World()
            handed, named = things_for(name, one), things_for(name, other)
            told = door(name, one)(*[handed[each] for each in placed], **{each: handed[each] for each in alone})
            again = door(name, other)(**{each: named[each] for each in reversed(placed + alone)})
            self.assertEqual(shape_of(told), shape_of(again), name)
            self.assertEqual(shape_of(vars(one)), shape_of(vars(other)), name)

    def test_what_is_handed_in_stays(self):
        for name, (placed, alone) in INTERFACE.items():
            world = World()
            handed = things_for(name, world)
            kept = {key: shape_of(thing) for key, thing in handed.items() if inside(thing) is None}
            door(name, world)(**handed)
            for key, thing in kept.items():
                self.assertEqual(shape_of(handed[key]), thing, name)

    def test_nothing_is_held_in_common(self):
        for name, (placed, alone) in INTERFACE.items():
            world = World()
            handed = things_for(name, world)
            call = door(name, world)
            # The lists and dicts that the asker handed in are his, those within handed objects are theirs.
            owned = holders(list(handed.values()), False)
            told = [call(**handed)]
            if name not in ("land.Land.undo", "land.Land.redo", "link.Link.lose", "link.Link.bring"):
                told.append(call(**handed))
            objects = [world.land, world.mesh, world.other, world.view, world.viewer, world.link, world.desk]
            kept = holders(tuple(objects), True)
            answers = [holders(each, False) for each in told]
            made = [holders(each, True) for each in told if inside(each) is not None]
            self.assertFalse(set(owned) & set(kept), name)
            for number, answer in enumerate(answers):
                self.assertFalse(set(answer) & (set(kept) | set(owned)), name)
                for other in answers[:number]:
                    self.assertFalse(set(answer) & set(other), name)
            if name != "link.Link":
                for each in made:
                    self.assertFalse(set(each) & (set(kept) | set(owned)), name)

    def test_told_lists_may_be_changed(self):
        for name, (placed, alone) in INTERFACE.items():
            world = World()
            handed = things_for(name, world)
            told = door(name, world)(**handed)
            before = shape_of(vars(world))
            for each in holders(told, False).values():
                each.clear()
            self.assertEqual(shape_of(vars(world)), before, name)

    def test_handed_lists_may_be_changed_behind_the_call(self):
        for name, (placed, alone) in INTERFACE.items():
            world = World()
            handed = things_for(name, world)
            owned = holders(list(handed.values()), False)
            told = door(name, world)(**handed)
            objects = (world.land, world.mesh, world.other, world.view, world.viewer, world.link, world.desk, told)
            before = shape_of(objects)
            for each in owned.values():
                each.clear()
            self.assertEqual(shape_of(objects), before, name)

    def test_two_objects_of_one_kind(self):
        one, other = World(), World()
        things = [(each.land, each.mesh, each.view, each.viewer, each.link, each.desk) for each in (one, other)]
        self.assertFalse(set(holders(things[0], True)) & set(holders(things[1], True)))


def refusals():
    """Each refusal of the program, made by one call: class, family, values, and the call."""
    world = World()
    land, mesh, viewer, link, desk = world.land, world.mesh, world.viewer, world.link, world.desk
    return [
        ("NoShare", None, {}, lambda: share(1, 0)),
        ("BadSize", "LandError", {"size": 5}, lambda: planned(1, 5, side=3)),
        ("BadSize", "LandError", {"size": 2}, lambda: Land((1, 1, 2), [[0, 0, 0], [0, 0, 0]])),
        ("BadSize", "LandError", {"size": -1}, lambda: Viewer(PLAN, world.heights, room=-1)),
        ("BadHeight", "LandError", {"at": (1, 1), "high": 1001}, lambda: land.put((1, 1), 1001)),
        ("Cracked", "LandError", {"at": (2, 0), "other": (2, 2)}, lambda: Mesh(PLAN, [(2, 0)])),
        ("Twice", "LandError", {"at": (2, 2)}, lambda: mesh.cut((2, 2))),
        ("OtherPlan", "LandError", {}, lambda: off(land, Mesh((1, 1, 2)))),
        ("BadView", "LandError", {"wrong": (-1, 2)}, lambda: View((-1, 2))),
        ("TooFew", "LandError", {"most": 3}, lambda: budget(land, most=3)),
        ("Lacking", "LandError", {"at": (2, 2), "other": (0, 0)}, lambda: regain(PLAN, {}, [((2, 2), 1)])),
        ("BadRest", "LandError", {"at": (2, 2), "rest": 1},
         lambda: regain(PLAN, {(0, 0): 1, (4, 4): 1}, [((2, 2), 1)])),
        ("BadRate", "LandError", {"rate": -1}, lambda: sent(PLAN, [], rate=-1)),
        ("NoRoom", "LandError", {"many": 6}, lambda: viewer.want([(2, 2), (6, 2), (0, 2), (2, 0), (2, 4), (4, 2)])),
        ("NoHalf", "LandError", {"shape": (0, 0, 1, 1, 1, 0)}, lambda: halved((0, 0, 1, 1, 1, 0))),
        ("BadPage", "LandError", {"row": 0}, lambda: read_page("")),
        ("BadCode", "LandError", {}, lambda: read_code("")),
        ("BadLine", "LandError", {"line": "sing"}, lambda: desk.do("sing")),
        ("NoPlace", "LookError", {"at": (9, 0)}, lambda: step(PLAN, (9, 0))),
        ("NoCut", "LookError", {"at": (8, 0)}, lambda: step(PLAN, (8, 0))),
        ("NotIn", "LookError", {"at": (1, 1)}, lambda: why(PLAN, CUTS, (1, 1))),
        ("NotHeld", "LookError", {"at": (2, 2)}, lambda: lacks(PLAN, CUTS, (2, 2))),
        ("NoTriangle", "LookError", {"shape": (0, 0, 0, 0, 0, 0)}, lambda: land.gap((0, 0, 0, 0, 0, 0))),
        ("NoSpot", "LookError", {"spot": ((9, 1), (0, 1))}, lambda: height_at(land, mesh, ((9, 1), (0, 1)))),
        ("NotCome", "LookError", {"at": (2, 2)}, lambda: viewer.height((2, 2))),
        ("NoLand", "LookError", {}, lambda: Desk().do("undo")),
        ("NoPacket", "NameFault", {"number": 9}, lambda: link.lose(9)),
        ("NoName", "NameFault", {"name": "none"}, lambda: desk.do("show none")),
        ("NothingLeft", None, {}, lambda: Land(PLAN).undo()),
    ]


class RefusalsTest(Case):
    def test_class_and_family(self):
        known = {name: each for name, each in inspect.getmembers(errors, inspect.isclass)}
        for name, family, values, call in refusals():
            self.refused(known[name], values, call)
            with self.assertRaises(Exception) as caught:
                call()
            above = [each.__name__ for each in type(caught.exception).__mro__ if each in known.values()]
            self.assertEqual(above, [name] + ([family] if family else []))
            self.assertEqual(vars(caught.exception), values)

    def test_each_class_is_there(self):
        known = {name for name, _ in inspect.getmembers(errors, inspect.isclass)}
        self.assertEqual({row[0] for row in refusals()} | {"LandError", "LookError", "NameFault"}, known)

    def test_pythons_own_families(self):
        own = {"LandError": ValueError, "LookError": LookupError, "NameFault": KeyError}
        for name, family, _, call in refusals():
            with self.assertRaises(own.get(family, ZeroDivisionError if name == "NoShare" else IndexError)):
                call()

    def test_refused_calls_leave_all_as_it_was(self):
        world = World()
        before = shape_of((world.mesh, world.view, world.viewer, world.link.packets, world.desk, world.land.rows()))
        for call in (lambda: world.viewer.want([(2, 0)]), lambda: world.viewer.take(((9, 9), 1, 1)),
                     lambda: world.link.lose(7), lambda: world.link.send((9, 9)), lambda: world.desk.do("sing"),
                     lambda: world.land.put((9, 9), 1), lambda: walk(world.mesh, [("cut", (0, 2)), ("cut", (2, 2))])):
            with self.assertRaises((errors.LandError, errors.LookError, errors.NameFault)):
                call()
        after = shape_of((world.mesh, world.view, world.viewer, world.link.packets, world.desk, world.land.rows()))
        self.assertEqual(after, before)


if __name__ == "__main__":
    unittest.main()
