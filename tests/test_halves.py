import itertools
import unittest

from braemantle.errors import LandError, NoHalf
from braemantle.halves import covers, halved, middle, roots, shapes, twin, under
from braemantle.lattice import cuts, ends, is_corner, parents
from plans import GREAT, PLANS, VAST, own_covers, own_roots, own_shapes, plain, signature

# Corners of triangles in all ways: proper ones of both turns, flat ones, and single places.
FEW = (-1, 0, 2)
ALL_WAYS = list(itertools.product(FEW, repeat=6))
AROUND = [(x, y) for x in range(-2, 4) for y in range(-2, 4)]


def moved(shape, x, y):
    return tuple(number + by for number, by in zip(shape, (x, y) * 3))


class RootsTest(unittest.TestCase):
    def test_all_plans(self):
        for plan in PLANS:
            self.assertEqual(roots(plan), own_roots(plan))

    def test_examples(self):
        self.assertEqual(roots((1, 1, 4)), [(0, 0, 4, 4, 4, 0), (4, 4, 0, 0, 0, 4)])
        self.assertEqual(roots((2, 2, 2)), [
            (0, 0, 2, 2, 2, 0), (2, 2, 0, 0, 0, 2),
            (2, 2, 0, 4, 2, 4), (0, 4, 2, 2, 0, 2),
            (4, 0, 2, 2, 4, 2), (2, 2, 4, 0, 2, 0),
            (2, 2, 4, 4, 4, 2), (4, 4, 2, 2, 2, 4),
        ])

    def test_made_for_the_asker(self):
        for function in (roots, shapes):
            first = function((2, 1, 2))
            kept = list(first)
            self.assertIs(type(first), list)
            first.clear()
            self.assertEqual(function((2, 1, 2)), kept)

    def test_signatures(self):
        for function in (roots, shapes):
            self.assertEqual(signature(function), plain("plan"))
        for function in (middle, halved, under):
            self.assertEqual(signature(function), plain("shape"))
        self.assertEqual(signature(covers), plain("shape", "at"))
        self.assertEqual(signature(twin), plain("plan", "shape"))
        plan, shape = (1, 1, 2), (0, 0, 2, 2, 2, 0)
        self.assertEqual((roots(plan=plan)[0], shapes(plan=plan)[0]), (shape, shape))
        self.assertEqual(middle(shape=shape), (1, 1))
        self.assertEqual(halved(shape=shape)[0], (0, 0, 2, 0, 1, 1))
        self.assertEqual(len(under(shape=shape)), 6)
        self.assertIs(covers(at=(1, 0), shape=shape), True)
        self.assertEqual(twin(shape=shape, plan=plan), (2, 2, 0, 0, 0, 2))


class HalvingTest(unittest.TestCase):
    def test_middle(self):
        self.assertEqual(middle((0, 0, 4, 4, 4, 0)), (2, 2))
        self.assertIs(type(middle((0, 0, 4, 4, 4, 0))), tuple)
        self.assertEqual(middle((-3, 5, 1, -9, 0, 0)), (-1, -2))
        self.assertEqual(middle((GREAT, -GREAT, GREAT + 2, -GREAT - 4, 1, 1)), (GREAT + 1, -GREAT - 2))
        self.assertTrue(middle((VAST, 0, VAST, 2, 1, 1)) == (VAST, 1))
        for shape in ((0, 0, 1, 1, 1, 0), (0, 0, 1, 2, 0, 0), (0, 0, 2, 1, 0, 0), (-1, 0, 0, 0, 2, 2),
                      (0, -3, 0, 0, 2, 2), (GREAT, 0, 1, 0, 0, 0), (-GREAT, 0, -1, 0, 0, 0)):
            self.assertIsNone(middle(shape))

    def test_third_corner_has_no_say_in_the_middle(self):
        self.assertEqual(middle((0, 0, 2, 2, 1, 7)), (1, 1))

    def test_halved(self):
        self.assertEqual(halved((0, 0, 4, 4, 4, 0)), [(0, 0, 4, 0, 2, 2), (4, 0, 4, 4, 2, 2)])
        self.assertEqual(halved((-1, 3, 5, -7, 9, 8)), [(-1, 3, 9, 8, 2, -2), (9, 8, 5, -7, 2, -2)])
        for shape in ALL_WAYS:
            if middle(shape) is not None:
                told = halved(shape)
                self.assertIs(type(told), list)
                self.assertEqual([type(half) for half in told], [tuple, tuple])
                (x, y), (ax, ay, bx, by, cx, cy) = middle(shape), shape
                self.assertEqual(told, [(ax, ay, cx, cy, x, y), (cx, cy, bx, by, x, y)])

    def test_no_half(self):
        great = (GREAT, 0, GREAT + 1, 0, 5, 5)
        vast = (VAST, 0, VAST, 1, 5, 5)
        for shape in [shape for shape in ALL_WAYS if middle(shape) is None] + [great, vast]:
            with self.assertRaises(NoHalf) as caught:
                halved(shape)
            self.assertTrue(caught.exception.shape == shape)
            self.assertIsInstance(caught.exception, LandError)

    def test_no_half_of_a_plans_least_triangles(self):
        for plan in PLANS:
            ended = [shape for shape in shapes(plan) if middle(shape) is None]
            self.assertEqual(len(ended), 2 * plan[0] * plan[1] * plan[2] ** 2)
            for shape in ended:
                with self.assertRaises(NoHalf) as caught:
                    halved(shape)
                self.assertEqual(caught.exception.shape, shape)

    def test_halves_are_made_for_the_asker(self):
        shape = (0, 0, 4, 4, 4, 0)
        halved(shape).clear()
        self.assertEqual(len(halved(shape)), 2)

    def test_shapes(self):
        for plan in PLANS:
            told = shapes(plan)
            self.assertEqual(told, list(own_shapes(plan)))
            self.assertEqual(len(set(told)), len(told))
            layers = {2: 3, 4: 5, 8: 7}[plan[2]]
            self.assertEqual(len(told), plan[0] * plan[1] * 2 * (2 ** layers - 1))

    def test_shapes_example(self):
        self.assertEqual(shapes((1, 1, 2))[:7], [
            (0, 0, 2, 2, 2, 0),
            (0, 0, 2, 0, 1, 1), (0, 0, 1, 1, 1, 0), (1, 1, 2, 0, 1, 0),
            (2, 0, 2, 2, 1, 1), (2, 0, 1, 1, 2, 1), (1, 1, 2, 2, 2, 1),
        ])

    def test_middles_are_the_cuts_with_their_kin(self):
        for plan in PLANS:
            sides, facing = {}, {}
            for shape in shapes(plan):
                at = middle(shape)
                if at is not None:
                    sides.setdefault(at, set()).add(tuple(sorted([shape[0:2], shape[2:4]])))
                    facing.setdefault(at, set()).add(shape[4:6])
            self.assertEqual(sorted(sides), cuts(plan))
            for at in sides:
                self.assertEqual(sides[at], {ends(plan, at)})
                asked = sorted(place for place in facing[at] if not is_corner(plan, place))
                self.assertEqual(parents(plan, at), asked)


class CoversTest(unittest.TestCase):
    def test_triangles_of_all_ways(self):
        for shape in ALL_WAYS:
            for at in AROUND:
                self.assertIs(covers(shape, at), own_covers(shape, at), (shape, at))

    def test_inside_rim_and_outside(self):
        shape = (0, 0, 4, 4, 4, 0)
        for at in ((3, 1), (2, 1)) + ((0, 0), (4, 4), (4, 0), (2, 2), (2, 0), (4, 3)):
            self.assertIs(covers(shape, at), True)
        for at in ((1, 2), (5, 0), (5, 5), (-1, 0), (0, -1), (-1, -1), (4, -1), (GREAT, 1), (1, -GREAT), (3, 4)):
            self.assertIs(covers(shape, at), False)

    def test_flat_triangles(self):
        flat = (0, 0, 6, 4, 3, 2)
        self.assertEqual([at for at in [(0, 0), (3, 2), (6, 4)] if covers(flat, at)], [(0, 0), (3, 2), (6, 4)])
        for at in ((-3, -2), (9, 6), (1, 1), (3, 3), (2, 1)):
            self.assertIs(covers(flat, at), False)
        long = (0, 0, 1, 1, 5, 5)
        self.assertIs(covers(long, (4, 4)), True)
        self.assertIs(covers(long, (6, 6)), False)

    def test_one_place(self):
        for at in AROUND:
            self.assertIs(covers((1, 1, 1, 1, 1, 1), at), at == (1, 1))

    def test_great_numbers(self):
        for shape in ((0, 0, 4, 4, 4, 0), (0, 0, 3, 1, 1, 2), (0, 0, 2, 2, 1, 1), (0, 0, 0, 0, 0, 0)):
            for x, y in ((GREAT, -GREAT), (-GREAT, 3), (0, VAST)):
                for px, py in AROUND:
                    self.assertIs(covers(moved(shape, x, y), (px + x, py + y)), own_covers(shape, (px, py)))
        wide = (-GREAT, -GREAT, GREAT, -GREAT, 0, GREAT)
        self.assertIs(covers(wide, (0, 0)), True)
        self.assertIs(covers(wide, (0, GREAT)), True)
        self.assertIs(covers(wide, (1, GREAT)), False)
        self.assertIs(covers(wide, (-GREAT, -GREAT + 1)), False)


class UnderTest(unittest.TestCase):
    def test_triangles_of_all_ways(self):
        for shape in ALL_WAYS:
            self.assertEqual(under(shape), [at for at in AROUND if own_covers(shape, at)])

    def test_plans_triangles(self):
        for plan in PLANS:
            for shape in shapes(plan):
                x, y = min(shape[0::2]), min(shape[1::2])
                near = [(px, py) for px in range(x - 1, x + 10) for py in range(y - 1, y + 10)]
                self.assertEqual(under(shape), [at for at in near if own_covers(shape, at)])

    def test_examples(self):
        self.assertEqual(under((0, 0, 2, 2, 2, 0)), [(0, 0), (1, 0), (1, 1), (2, 0), (2, 1), (2, 2)])
        self.assertEqual(under((0, 0, 6, 4, 3, 2)), [(0, 0), (3, 2), (6, 4)])
        self.assertEqual(under((-5, 7, -5, 7, -5, 7)), [(-5, 7)])

    def test_kinds_and_made_for_the_asker(self):
        shape = (0, 0, 2, 2, 2, 0)
        first = under(shape)
        self.assertIs(type(first), list)
        self.assertEqual({type(at) for at in first}, {tuple})
        first.clear()
        self.assertEqual(len(under(shape)), 6)

    def test_far_away(self):
        shape = (0, 0, 3, 1, 1, 2)
        for x, y in ((GREAT, -GREAT), (-VAST, VAST)):
            asked = [(px + x, py + y) for px, py in under(shape)]
            self.assertTrue(under(moved(shape, x, y)) == asked)


class TwinTest(unittest.TestCase):
    def test_all_plans(self):
        for plan in PLANS:
            known = set(own_shapes(plan))
            for shape in shapes(plan):
                ax, ay, bx, by, cx, cy = shape
                asked = (bx, by, ax, ay, ax + bx - cx, ay + by - cy)
                told = twin(plan, shape)
                if asked in known:
                    self.assertEqual(told, asked)
                    self.assertIs(type(told), tuple)
                    self.assertEqual(twin(plan, told), shape)
                else:
                    self.assertIsNone(told)

    def test_none_on_the_rim_alone(self):
        for plan in PLANS:
            wide, deep, side = plan
            for shape in shapes(plan):
                ax, ay, bx, by = shape[:4]
                on_rim = ax == bx in (0, wide * side) or ay == by in (0, deep * side)
                self.assertEqual(twin(plan, shape) is None, on_rim)

    def test_examples(self):
        self.assertEqual(twin((1, 1, 4), (0, 0, 4, 4, 4, 0)), (4, 4, 0, 0, 0, 4))
        self.assertIsNone(twin((1, 1, 4), (4, 0, 4, 4, 2, 2)))
        self.assertEqual(twin((2, 1, 4), (4, 0, 4, 4, 2, 2)), (4, 4, 4, 0, 6, 2))


if __name__ == "__main__":
    unittest.main()
