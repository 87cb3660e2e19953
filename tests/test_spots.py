import unittest
from fractions import Fraction

from braemantle.errors import LookError, NoCut, NoPlace, NoSpot, NoTriangle, OtherPlan
from braemantle.land import Land
from braemantle.lattice import ends
from braemantle.mesh import Mesh
from braemantle.spots import apart, height_at, off, slide, slope, volume
from plans import (
    GREAT, PLANS, VAST, Case, area, beyond, corner_highs, land_of, meshes, own_covers, own_shapes, own_triangles,
    own_under, pair, places, plain, plane_at, seeded, signature, three)

EACH_SIDE = [(1, 1, 2), (2, 1, 2), (3, 2, 2), (1, 1, 4), (1, 2, 4), (2, 2, 4), (1, 1, 8), (2, 1, 8)]
PARTS = [(0, 1), (1, 1), (1, 2), (-1, 1), (-7, 3), (GREAT, 7), (-GREAT, 1), (1, GREAT), (3, 4)]


def spot(x, y):
    return (pair(x), pair(y))


def own_heights(land, mesh):
    """The mesh's heights at all places, as fractions."""
    rows, heights = land.rows(), {}
    for shape in own_triangles(mesh.plan, mesh.cuts()):
        highs = corner_highs(rows, shape)
        for at in own_under(shape):
            high = plane_at(shape, highs, at)
            assert heights.setdefault(at, high) == high
    return heights


def own_farthest(ones, others):
    distances = {at: abs(ones[at] - others[at]) for at in ones}
    most = max(distances.values())
    return (pair(most), min(at for at in distances if distances[at] == most))


class HeightAtTest(Case):
    def test_at_places(self):
        for plan in EACH_SIDE:
            land = land_of(plan, "places")
            for mesh in meshes(plan, 1, "places"):
                heights = own_heights(land, mesh)
                self.assertEqual(sorted(heights), places(plan))
                for x, y in places(plan):
                    told = height_at(land, mesh, ((x, 1), (y, 1)))
                    self.assertEqual(told, pair(heights[(x, y)]))
                    self.assertIs(type(told), tuple)

    def test_at_places_of_the_mesh(self):
        for plan in PLANS:
            land = land_of(plan, "own")
            for mesh in meshes(plan, 1, "own")[::2]:
                for x, y in [at for at in places(plan) if mesh.has(at)][::11]:
                    self.assertEqual(height_at(land, mesh, ((x, 1), (y, 1))), (land.height((x, y)), 1))

    def test_within_triangles_and_on_their_sides(self):
        for plan in EACH_SIDE:
            land, chance = land_of(plan, "within"), seeded("within", plan)
            rows = land.rows()
            for mesh in meshes(plan, 2, "within"):
                for shape in chance.sample(mesh.triangles(), min(8, len(mesh))):
                    for parts in ((1, 1, 1), (1, 1, 0), (0, 2, 5), (3, 0, 1), (1, 10 ** 9, 3), (7, 4, 11)):
                        x, y = (sum(Fraction(part, sum(parts)) * at[k] for part, at in zip(parts, three(shape)))
                                for k in (0, 1))
                        asked = plane_at(shape, corner_highs(rows, shape), (x, y))
                        self.assertEqual(height_at(land, mesh, spot(x, y)), pair(asked))

    def test_any_spots(self):
        for plan in PLANS:
            wide, deep, side = plan
            land, chance = land_of(plan, "any"), seeded("any", plan)
            rows = land.rows()
            mesh = meshes(plan, 2, "any")[-1]
            for under in (1, 2, 3, 64, 97, 10 ** 20):
                x = Fraction(chance.randint(0, wide * side * under), under)
                y = Fraction(chance.randint(0, deep * side * under), under)
                highs = {plane_at(shape, corner_highs(rows, shape), (x, y))
                         for shape in mesh.triangles() if own_covers(shape, (x, y))}
                self.assertEqual({height_at(land, mesh, spot(x, y))}, {pair(high) for high in highs})

    def test_rim(self):
        for plan in EACH_SIDE:
            wide, deep, side = plan
            land = land_of(plan, "rim")
            rows = land.rows()
            mesh = Mesh(plan)
            # Between two corners of blocks the roots' sides are straight.
            for part in (Fraction(0), Fraction(1, 3), Fraction(1)):
                low = rows[0][0] + part * (rows[0][side] - rows[0][0])
                self.assertEqual(height_at(land, mesh, spot(part * side, 0)), pair(low))
                right = rows[0][wide * side] + part * (rows[side][wide * side] - rows[0][wide * side])
                self.assertEqual(height_at(land, mesh, spot(wide * side, part * side)), pair(right))
                top = rows[deep * side][0] + part * (rows[deep * side][side] - rows[deep * side][0])
                self.assertEqual(height_at(land, mesh, spot(part * side, deep * side)), pair(top))

    def test_no_spot(self):
        for plan in PLANS:
            wide, deep, side = plan
            land, mesh = Land(plan), Mesh(plan)
            for tiny in (Fraction(1), Fraction(1, 1000), Fraction(1, GREAT), Fraction(GREAT), Fraction(VAST)):
                for x, y in ((-tiny, 0), (0, -tiny), (wide * side + tiny, 1), (Fraction(1, 3), deep * side + tiny),
                             (-tiny, -tiny), (wide * side + tiny, -tiny)):
                    self.refused(NoSpot, {"spot": spot(x, y)}, height_at, land, mesh, spot(x, y))
        self.assertTrue(issubclass(NoSpot, LookError))

    def test_other_plan_goes_first(self):
        for plan in EACH_SIDE:
            for other in EACH_SIDE:
                if plan != other:
                    for x, y in ((1, 1), (-1, 0), (Fraction(1, 2), 99)):
                        self.refused(OtherPlan, {}, height_at, Land(plan), Mesh(other), spot(x, y))

    def test_example(self):
        land = Land((1, 1, 2), [[0, 3, 0], [0, 1, 0], [0, 0, 8]])
        self.assertEqual(height_at(land, Mesh((1, 1, 2)), ((1, 1), (1, 1))), (4, 1))
        self.assertEqual(height_at(land, Mesh((1, 1, 2), [(1, 1)]), ((1, 1), (1, 1))), (1, 1))
        self.assertEqual(height_at(mesh=Mesh((1, 1, 2)), spot=((3, 2), (1, 3)), land=land), (4, 3))


class DistancesTest(Case):
    def test_off(self):
        for plan in PLANS:
            for high in (2, 1000):
                land = land_of(plan, "off", high)
                ground = {(x, y): land.height((x, y)) for x, y in places(plan)}
                for mesh in meshes(plan, 1, "off")[::1 if plan in EACH_SIDE else 3]:
                    told = off(land, mesh)
                    self.assertEqual(told, own_farthest(ground, own_heights(land, mesh)))
                    self.assertEqual({type(told), type(told[0]), type(told[1])}, {tuple})

    def test_apart(self):
        for plan in EACH_SIDE:
            for high in (2, 1000):
                land = land_of(plan, "apart", high)
                told = [(mesh, own_heights(land, mesh)) for mesh in meshes(plan, 2, "apart")]
                for mesh, ones in told:
                    for other, others in told:
                        self.assertEqual(apart(land, mesh, other), own_farthest(ones, others))

    def test_great_plan(self):
        plan = (3, 3, 8)
        land = land_of(plan, "great")
        one, other = meshes(plan, 2, "great")[-2:]
        self.assertEqual(apart(land, one, other), own_farthest(own_heights(land, one), own_heights(land, other)))
        self.assertEqual(apart(land, one, other), apart(land, other, one))

    def test_no_spot_is_farther_apart(self):
        for plan in EACH_SIDE:
            wide, deep, side = plan
            chance = seeded("spots", plan)
            land = land_of(plan, "farther")
            told = meshes(plan, 2, "farther")
            for one, other in zip(told, told[::-1]):
                most = Fraction(*apart(land, one, other)[0])
                for _ in range(25):
                    x, y = Fraction(chance.randint(0, wide * side * 12), 12), Fraction(chance.random()) * deep * side
                    heights = [Fraction(*height_at(land, mesh, spot(x, y))) for mesh in (one, other)]
                    self.assertLessEqual(abs(heights[0] - heights[1]), most)

    def test_nought_apart_at_the_first_place(self):
        for plan in PLANS:
            land = land_of(plan, "nought")
            for mesh in meshes(plan, 0, "nought")[:2]:
                self.assertEqual(apart(land, mesh, mesh), ((0, 1), (0, 0)))
                self.assertEqual(off(Land(plan), mesh), ((0, 1), (0, 0)))

    def test_whole_mesh_is_not_off(self):
        for plan in EACH_SIDE:
            whole = Mesh(plan, [at for at in places(plan) if at[0] % plan[2] or at[1] % plan[2]])
            self.assertEqual(off(land_of(plan, "whole"), whole), ((0, 1), (0, 0)))

    def test_goes_by_the_land_as_it_is(self):
        land, mesh = Land((1, 1, 2)), Mesh((1, 1, 2))
        land.put((1, 1), 5)
        self.assertEqual(off(land, mesh), ((5, 1), (1, 1)))
        self.assertEqual(apart(land=land, mesh=mesh, other=mesh.cut((1, 1))), ((5, 1), (1, 1)))
        land.put((1, 0), -5)
        self.assertEqual(off(mesh=mesh, land=land), ((5, 1), (1, 0)))
        land.undo()
        land.undo()
        self.assertEqual(off(land, mesh), ((0, 1), (0, 0)))

    def test_other_plan(self):
        for plan in EACH_SIDE:
            for other in EACH_SIDE:
                if plan != other:
                    land, mesh, wrong = Land(plan), Mesh(plan), Mesh(other)
                    self.refused(OtherPlan, {}, off, land, wrong)
                    self.refused(OtherPlan, {}, apart, land, mesh, wrong)
                    self.refused(OtherPlan, {}, apart, land, wrong, mesh)
                    self.refused(OtherPlan, {}, apart, land, wrong, wrong)
                    self.refused(OtherPlan, {}, volume, land, wrong)


class SlopeTest(Case):
    def test_leads_from_corner_to_corner(self):
        for plan in PLANS:
            land = land_of(plan, "slope")
            rows = land.rows()
            for shape in own_shapes(plan):
                told = slope(land, shape)
                self.assertEqual({type(told), type(told[0]), type(told[1])}, {tuple})
                self.assertEqual(told, (pair(Fraction(*told[0])), pair(Fraction(*told[1]))))
                rise, climb = Fraction(*told[0]), Fraction(*told[1])
                (ax, ay), (bx, by), (cx, cy) = three(shape)
                high, first, second = corner_highs(rows, shape)
                self.assertEqual(high + rise * (bx - ax) + climb * (by - ay), first)
                self.assertEqual(high + rise * (cx - ax) + climb * (cy - ay), second)

    def test_examples(self):
        land = Land((1, 1, 4), [[0, 0, 0, 0, 6]] + [[0] * 5] * 3 + [[0, 0, 0, 0, 5]])
        self.assertEqual(slope(land, (0, 0, 4, 4, 4, 0)), ((3, 2), (-1, 4)))
        self.assertEqual(slope(shape=(4, 4, 0, 0, 0, 4), land=land), ((5, 4), (0, 1)))

    def test_no_triangle(self):
        for plan in EACH_SIDE:
            ax, ay, bx, by, cx, cy = own_shapes(plan)[0]
            for wrong in ((bx, by, ax, ay, cx, cy), (ax, ay, bx, by, cx, cy + 1), (0,) * 6, (ax - VAST,) * 6,
                          (ax, ay, bx, by, cx + GREAT, cy), (cx, cy, ax, ay, bx, by)):
                self.refused(NoTriangle, {"shape": wrong}, slope, Land(plan), wrong)


class VolumeTest(Case):
    def test_sum_over_the_triangles(self):
        for plan in PLANS:
            land = land_of(plan, "volume")
            rows = land.rows()
            for mesh in meshes(plan, 2, "volume"):
                room = sum(Fraction(area(*three(shape)), 6) * sum(corner_highs(rows, shape))
                           for shape in own_triangles(plan, mesh.cuts()))
                told = volume(land, mesh)
                self.assertEqual(told, pair(room))
                self.assertIs(type(told), tuple)

    def test_flat_lands(self):
        for plan in PLANS:
            wide, deep, side = plan
            land = Land(plan)
            for mesh in meshes(plan, 0, "flat"):
                self.assertEqual(volume(land, mesh), (0, 1))
            for by in (5, -12):
                land.lift((0, 0), (wide * side, deep * side), by=by)
                high = land.height((0, 0))
                for mesh in meshes(plan, 0, "flat"):
                    self.assertEqual(volume(mesh=mesh, land=land), (high * wide * deep * side * side, 1))

    def test_examples(self):
        land, mesh = Land((1, 1, 2)), Mesh((1, 1, 2))
        land.put((2, 0), 1)
        self.assertEqual(volume(land, mesh), (2, 3))
        land.put((0, 2), -1)
        self.assertEqual(volume(land, mesh), (0, 1))
        land.put((0, 0), -1)
        self.assertEqual(volume(land, mesh), (-4, 3))
        self.assertEqual(volume(land, mesh.cut((1, 1))), (-2, 3))


class SlideTest(Case):
    def test_each_cut(self):
        for plan in PLANS:
            land = land_of(plan, "slide")
            for at in [at for at in places(plan) if at[0] % plan[2] or at[1] % plan[2]]:
                half = Fraction(sum(land.height(end) for end in ends(plan, at)), 2)
                high = land.height(at)
                for part in PARTS:
                    told = slide(land, at, part)
                    self.assertEqual(told, pair(half + Fraction(*part) * (high - half)))
                    self.assertIs(type(told), tuple)
                self.assertEqual(slide(land, at), pair((half + high) / 2))
                self.assertEqual(slide(land, at, (0, 1)), pair(half))
                self.assertEqual(slide(land, at, (1, 1)), (high, 1))

    def test_example(self):
        land = Land((1, 1, 2), [[1, 7, 4], [0, 0, 0], [0, 0, 0]])
        self.assertEqual(slide(land, (1, 0)), (19, 4))
        self.assertEqual(slide(part=(1, 3), at=(1, 0), land=land), (4, 1))
        self.assertEqual(slide(land, (1, 0), part=(-2, 1)), (-13, 2))

    def test_no_place_and_no_cut(self):
        for plan in PLANS:
            land = Land(plan)
            for at in beyond(plan):
                self.refused(NoPlace, {"at": at}, slide, land, at)
            for at in [at for at in places(plan) if not (at[0] % plan[2] or at[1] % plan[2])]:
                self.refused(NoCut, {"at": at}, slide, land, at, (1, 1))

    def test_signatures(self):
        self.assertEqual(signature(height_at), plain("land", "mesh", "spot"))
        self.assertEqual(signature(off), plain("land", "mesh"))
        self.assertEqual(signature(apart), plain("land", "mesh", "other"))
        self.assertEqual(signature(slope), plain("land", "shape"))
        self.assertEqual(signature(volume), plain("land", "mesh"))
        self.assertEqual(signature(slide), plain("land", "at") + [("part", False, (1, 2))])

    def test_nothing_here_changes_the_land_or_the_mesh(self):
        plan = (1, 1, 4)
        land = land_of(plan, "same")
        mesh = Mesh(plan, [(2, 2), (0, 2)])
        rows, cuts = land.rows(), mesh.cuts()
        off(land, mesh), apart(land, mesh, Mesh(plan)), volume(land, mesh), slide(land, (1, 1))
        slope(land, own_shapes(plan)[0]), height_at(land, mesh, ((1, 3), (1, 3)))
        self.assertEqual((land.rows(), land.edition, land.tries, mesh.cuts()), (rows, 0, 0, cuts))


if __name__ == "__main__":
    unittest.main()
