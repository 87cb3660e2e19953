import unittest
from unittest import mock

from braemantle.errors import Cracked, LandError, LookError, NoCut, NoPlace, NoTriangle, NotIn, OtherPlan, Twice
from braemantle.mesh import Mesh
from plans import (
    GREAT, PLANS, VAST, Case, area, beyond, closed_sets, every_cut, kin_of_cuts, meshes, on_side, own_crack, own_roots,
    own_shapes, own_triangles, places, plain, seeded, signature, some_cuts, three)

SMALL = [(1, 1, 2), (2, 1, 2), (3, 2, 2), (1, 1, 4), (1, 2, 4), (2, 2, 4), (1, 1, 8), (2, 1, 8)]


def three_sides(shape):
    a, b, c = three(shape)
    return [{a, b}, {b, c}, {c, a}]


class MakingTest(Case):
    def test_all_plans(self):
        for plan in PLANS:
            for cuts in closed_sets(plan, 3, seeded("making", plan)):
                mesh = Mesh(plan, cuts)
                self.assertEqual(mesh.plan, plan)
                self.assertEqual(mesh.cuts(), cuts)
                self.assertEqual(mesh.triangles(), own_triangles(plan, cuts))
                self.assertEqual(len(mesh), len(own_triangles(plan, cuts)))

    def test_order_of_shapes(self):
        for plan in PLANS:
            numbers = {shape: number for number, shape in enumerate(own_shapes(plan))}
            for mesh in meshes(plan, 2, "order"):
                row = [numbers[shape] for shape in mesh.triangles()]
                self.assertEqual(row, sorted(row))

    def test_no_crack_and_no_overlap(self):
        for plan in PLANS:
            wide, deep, side = plan
            for mesh in meshes(plan, 1, "whole"):
                told = mesh.triangles()
                self.assertEqual(sum(area(*three(shape)) for shape in told), 2 * wide * deep * side * side)
                corners = {at for shape in told for at in three(shape)}
                for shape in told:
                    for p, q in ((0, 1), (1, 2), (2, 0)):
                        p, q = three(shape)[p], three(shape)[q]
                        near = [at for at in corners if abs(at[0] - p[0]) + abs(at[1] - p[1]) <= 2 * side]
                        self.assertEqual({at for at in near if on_side(p, q, at)}, {p, q})

    def test_neighbours_in_the_row_touch(self):
        for plan in PLANS:
            side = plan[2]
            for mesh in meshes(plan, 3, "row"):
                told = mesh.triangles()
                for one, other in zip(told, told[1:]):
                    blocks = [(min(shape[0::2]) // side, min(shape[1::2]) // side) for shape in (one, other)]
                    common = [place for place in three_sides(one) if place in three_sides(other)]
                    if blocks[0] == blocks[1]:
                        self.assertEqual(len(common), 1)

    def test_roots_alone(self):
        for plan in PLANS:
            for mesh in (Mesh(plan), Mesh(plan, []), Mesh(plan, ()), Mesh(cuts=[], plan=plan)):
                self.assertEqual(mesh.triangles(), own_roots(plan))
                self.assertEqual(mesh.cuts(), [])

    def test_list_or_tuple_in_any_order_some_twice(self):
        for plan in SMALL:
            chance = seeded("ways", plan)
            for cuts in closed_sets(plan, 3, chance):
                mixed = cuts + cuts[:3]
                chance.shuffle(mixed)
                for handed in (cuts, tuple(cuts), mixed, tuple(mixed), cuts[::-1]):
                    mesh = Mesh(plan, handed)
                    self.assertEqual(mesh.cuts(), cuts)
                    self.assertEqual(mesh.triangles(), own_triangles(plan, cuts))

    def test_example(self):
        mesh = Mesh((1, 1, 2), [(1, 0), (1, 1)])
        self.assertEqual(mesh.triangles(), [
            (0, 0, 1, 1, 1, 0), (1, 1, 2, 0, 1, 0), (2, 0, 2, 2, 1, 1), (2, 2, 0, 2, 1, 1), (0, 2, 0, 0, 1, 1)])

    def test_cracked(self):
        for plan in PLANS:
            chance = seeded("cracked", plan)
            for cuts in some_cuts(plan, 5, chance):
                asked = own_crack(plan, cuts)
                if asked is not None:
                    for handed in (cuts, tuple(cuts)):
                        self.refused(Cracked, {"at": asked[0], "other": asked[1]}, Mesh, plan, handed)
        self.assertTrue(issubclass(Cracked, LandError))

    def test_no_place_and_no_cut_go_first(self):
        plan = (2, 1, 4)
        self.refused(NoPlace, {"at": (9, 0)}, Mesh, plan, [(1, 1), (9, 0)])
        self.refused(NoCut, {"at": (4, 4)}, Mesh, plan, [(1, 1), (4, 4)])
        self.refused(NoCut, {"at": (4, 4)}, Mesh, plan, [(4, 4), (9, 0)])
        self.refused(NoPlace, {"at": (12, 0)}, Mesh, plan, ((12, 0), (4, 4)))
        for wrong in beyond(plan):
            self.refused(NoPlace, {"at": wrong}, Mesh, plan, [(2, 2), wrong])

    def test_signature(self):
        self.assertEqual(signature(Mesh), plain("plan") + [("cuts", False, ())])
        for name in ("triangles", "cuts"):
            self.assertEqual(signature(getattr(Mesh, name)), plain("self"))
        for name in ("has", "cut", "mend"):
            self.assertEqual(signature(getattr(Mesh, name)), plain("self", "at"))
        for name in ("joined", "met"):
            self.assertEqual(signature(getattr(Mesh, name)), plain("self", "other"))
        self.assertEqual(signature(Mesh.beside), plain("self", "shape"))


class ValuesTest(Case):
    def test_handed_and_told_lists_changed_behind_the_call(self):
        plan, cuts = (1, 1, 4), [(2, 2), (0, 2)]
        mesh = Mesh(plan, cuts)
        self.assertEqual(cuts, [(2, 2), (0, 2)])
        cuts.append((2, 0))
        cuts[0] = (1, 1)
        for told in (mesh.cuts(), mesh.triangles(), mesh.beside(mesh.triangles()[0])):
            self.assertIs(type(told), list)
            told.clear()
        mesh.cuts().append((2, 0))
        self.assertEqual(mesh.cuts(), [(0, 2), (2, 2)])
        self.assertEqual(mesh.triangles(), own_triangles(plan, [(0, 2), (2, 2)]))
        self.assertEqual(str(mesh), "0,2 2,2")
        self.assertIs(mesh.has((2, 0)), False)
        self.assertIsNot(mesh.cuts(), mesh.cuts())

    def test_kinds(self):
        mesh = Mesh((1, 1, 4), [(2, 2), (0, 2)])
        self.assertEqual({type(at) for at in mesh.cuts()}, {tuple})
        self.assertEqual({type(shape) for shape in mesh.triangles()}, {tuple})
        self.assertIs(type(mesh.plan), tuple)

    def test_has(self):
        for plan in PLANS:
            side = plan[2]
            for mesh in meshes(plan, 2, "has"):
                kept = set(mesh.cuts())
                for at in places(plan):
                    self.assertIs(mesh.has(at), at in kept or not (at[0] % side or at[1] % side))
            for at in beyond(plan):
                self.refused(NoPlace, {"at": at}, Mesh(plan).has, at)
        self.assertIs(Mesh((1, 1, 2)).has(at=(1, 1)), False)

    def test_equal(self):
        told = [mesh for plan in SMALL for mesh in meshes(plan, 2, "equal")]
        for one in told:
            for other in told:
                same = one.plan == other.plan and one.cuts() == other.cuts()
                self.assertIs(one == other, same)
                self.assertIs(one != other, not same)
            twin = Mesh(one.plan, one.cuts()[::-1])
            self.assertIs(one == twin, True)
            self.assertIs(one != twin, False)

    def test_same_cuts_of_different_plans(self):
        for cuts in ([], [(2, 2)], [(2, 2), (0, 2)]):
            one, other = Mesh((1, 1, 4), cuts), Mesh((2, 1, 4), cuts)
            self.assertIs(one == other, False)
            self.assertIs(other == one, False)
            self.assertIs(one != other, True)

    def test_beside_things_that_are_no_mesh(self):
        for mesh in (Mesh((1, 1, 2)), Mesh((1, 1, 2), [(1, 1)])):
            for thing in (None, 0, 1, 2, len(mesh), "-", str(mesh), repr(mesh), [], mesh.cuts(), mesh.triangles(), (),
                          mesh.plan, {}, {(1, 1): True}, set(), object(), Mesh, b""):
                self.assertIs(mesh == thing, False)
                self.assertIs(thing == mesh, False)
                self.assertIs(mesh != thing, True)
                self.assertIs(thing != mesh, True)
            alike = mock.Mock(plan=mesh.plan, cuts=mesh.cuts, triangles=mesh.triangles, marks=mesh.marks)
            self.assertIs(mesh == alike, False)

    def test_str_and_repr(self):
        self.assertEqual((str(Mesh((3, 3, 8))), repr(Mesh((3, 3, 8)))), ("-", "Mesh(0)"))
        mesh = Mesh((2, 1, 8), [(12, 4), (8, 4), (4, 4)])
        self.assertEqual((str(mesh), repr(mesh)), ("4,4 8,4 12,4", "Mesh(3)"))
        self.assertEqual((str(Mesh((1, 1, 2), [(1, 1)])), repr(Mesh((1, 1, 2), [(1, 1)]))), ("1,1", "Mesh(1)"))
        for plan in PLANS:
            for mesh in meshes(plan, 1, "str"):
                asked = " ".join(f"{x},{y}" for x, y in mesh.cuts()) or "-"
                self.assertEqual((str(mesh), repr(mesh)), (asked, f"Mesh({len(mesh.cuts())})"))


class StepsTest(Case):
    def check_cut(self, mesh, at, parents):
        lacking = [place for place in parents[at] if place not in mesh.cuts()]
        if at in mesh.cuts():
            self.refused(Twice, {"at": at}, mesh.cut, at)
        elif lacking:
            self.refused(Cracked, {"at": at, "other": lacking[0]}, mesh.cut, at)
        else:
            told = mesh.cut(at)
            self.assertIs(type(told), Mesh)
            self.assertEqual(told, Mesh(mesh.plan, mesh.cuts() + [at]))
            self.assertEqual(told.cuts(), sorted(mesh.cuts() + [at]))
            self.assertEqual(told.mend(at), mesh)

    def check_mend(self, mesh, at, children):
        there = [place for place in children[at] if place in mesh.cuts()]
        if at not in mesh.cuts():
            self.refused(NotIn, {"at": at}, mesh.mend, at)
        elif there:
            self.refused(Cracked, {"at": there[0], "other": at}, mesh.mend, at)
        else:
            told = mesh.mend(at)
            self.assertIs(type(told), Mesh)
            self.assertEqual(told.cuts(), [place for place in mesh.cuts() if place != at])
            self.assertEqual(told.plan, mesh.plan)
            self.assertEqual(told.cut(at), mesh)

    def test_each_cut(self):
        for plan in SMALL:
            parents, children = kin_of_cuts(plan)
            for mesh in meshes(plan, 3, "steps"):
                cuts, told = mesh.cuts(), mesh.triangles()
                for at in every_cut(plan):
                    self.check_cut(mesh, at, parents)
                    self.check_mend(mesh, at, children)
                self.assertEqual((mesh.cuts(), mesh.triangles(), mesh.plan), (cuts, told, plan))

    def test_both_parents_lacking_and_one(self):
        mesh = Mesh((2, 1, 4))
        self.refused(Cracked, {"at": (4, 2), "other": (2, 2)}, mesh.cut, (4, 2))
        self.refused(Cracked, {"at": (4, 2), "other": (6, 2)}, mesh.cut((2, 2)).cut, (4, 2))
        self.assertEqual(mesh.cut((6, 2)).cut((2, 2)).cut(at=(4, 2)).cuts(), [(2, 2), (4, 2), (6, 2)])

    def test_first_child_in_order(self):
        mesh = Mesh((1, 1, 4), [(2, 2), (2, 4), (2, 0), (4, 2)])
        self.refused(Cracked, {"at": (2, 0), "other": (2, 2)}, mesh.mend, (2, 2))
        self.refused(Cracked, {"at": (2, 4), "other": (2, 2)}, mesh.mend((2, 0)).mend, (2, 2))
        self.assertEqual(mesh.mend(at=(4, 2)).cuts(), [(2, 0), (2, 2), (2, 4)])

    def test_no_place_and_no_cut(self):
        for plan in SMALL:
            side = plan[2]
            for mesh in meshes(plan, 0, "wrong"):
                for at in places(plan):
                    if not (at[0] % side or at[1] % side):
                        self.refused(NoCut, {"at": at}, mesh.cut, at)
                        self.refused(NoCut, {"at": at}, mesh.mend, at)
                for at in beyond(plan) + [(5 * side, 0), (0, -side)]:
                    self.refused(NoPlace, {"at": at}, mesh.cut, at)
                    self.refused(NoPlace, {"at": at}, mesh.mend, at)

    def test_families(self):
        self.assertTrue(issubclass(Twice, LandError))
        self.assertTrue(issubclass(NotIn, LookError))


class TwoMeshesTest(Case):
    def test_joined_and_met(self):
        for plan in PLANS:
            told = meshes(plan, 3, "two")
            for one in told:
                for other in told:
                    cuts = (one.cuts(), other.cuts())
                    self.assertEqual(one.joined(other).cuts(), sorted(set(one.cuts()) | set(other.cuts())))
                    self.assertEqual(one.met(other).cuts(), sorted(set(one.cuts()) & set(other.cuts())))
                    self.assertEqual(one.joined(other), other.joined(one))
                    self.assertEqual(one.met(other), other.met(one))
                    self.assertEqual(one.joined(other).plan, plan)
                    self.assertEqual((one.cuts(), other.cuts()), cuts)
                self.assertEqual(one.joined(other=one), one)
                self.assertEqual(one.met(other=one), one)
                self.assertIs(type(one.met(one)), Mesh)

    def test_other_plan(self):
        for plan in SMALL:
            for other in SMALL:
                for one in meshes(plan, 0, "plans"):
                    if plan != other:
                        self.refused(OtherPlan, {}, one.joined, Mesh(other))
                        self.refused(OtherPlan, {}, one.met, Mesh(other))
        self.assertTrue(issubclass(OtherPlan, LandError))


class BesideTest(Case):
    def test_each_side_of_each_triangle(self):
        for plan in SMALL + [(3, 3, 2), (3, 2, 4)]:
            wide, deep, side = plan
            for mesh in meshes(plan, 2, "beside"):
                told = mesh.triangles()
                for shape in told:
                    found = mesh.beside(shape)
                    self.assertIs(type(found), list)
                    self.assertEqual(len(found), 3)
                    for ends, other in zip(three_sides(shape), found):
                        (x, y), (xx, yy) = ends
                        on_rim = x == xx in (0, wide * side) or y == yy in (0, deep * side)
                        self.assertEqual(other is None, on_rim)
                        if other is not None:
                            self.assertIn(other, told)
                            self.assertNotEqual(other, shape)
                            self.assertIs(type(other), tuple)
                            self.assertIn(ends, three_sides(other))
                            self.assertEqual(mesh.beside(other)[three_sides(other).index(ends)], shape)

    def test_great_plans(self):
        for plan in ((3, 3, 8), (2, 3, 8)):
            mesh = meshes(plan, 2, "great")[-1]
            for shape in mesh.triangles()[::7]:
                for ends, other in zip(three_sides(shape), mesh.beside(shape)):
                    asked = [each for each in mesh.triangles() if each != shape and ends in three_sides(each)]
                    self.assertEqual([other] if other else [], asked)

    def test_example(self):
        mesh = Mesh((1, 1, 2), [(1, 1), (1, 0)])
        self.assertEqual(mesh.beside((1, 1, 2, 0, 1, 0)), [(2, 0, 2, 2, 1, 1), None, (0, 0, 1, 1, 1, 0)])
        self.assertEqual(mesh.beside(shape=(2, 0, 2, 2, 1, 1)), [None, (2, 2, 0, 2, 1, 1), (1, 1, 2, 0, 1, 0)])

    def test_no_triangle(self):
        for plan in SMALL:
            for mesh in meshes(plan, 1, "none"):
                told = mesh.triangles()
                for shape in own_shapes(plan):
                    if shape not in told:
                        self.refused(NoTriangle, {"shape": shape}, mesh.beside, shape)
                ax, ay, bx, by, cx, cy = told[0]
                for shape in ((bx, by, ax, ay, cx, cy), (bx, by, cx, cy, ax, ay), (ax + 1, ay, bx, by, cx, cy),
                              (0, 0, 0, 0, 0, 0), (ax, ay, bx, by, cx + GREAT, cy), (ax, ay - VAST, bx, by, cx, cy)):
                    self.refused(NoTriangle, {"shape": shape}, mesh.beside, shape)
        self.assertTrue(issubclass(NoTriangle, LookError))


if __name__ == "__main__":
    unittest.main()
