import itertools
import unittest

from braemantle.errors import BadSize, LandError, LookError, NoCut, NoPlace
from braemantle.lattice import SIDE, children, corners, cuts, ends, is_corner, level, parents, planned, step
from plans import GREAT, PLANS, VAST, beyond, places, plain, signature

BLOCK_TRIES = list(range(-1, 6)) + [GREAT, -GREAT, VAST, True, False]
SIDE_TRIES = list(range(-2, 10)) + [16, GREAT, -GREAT, VAST, True, False]
OF_CUTS = (step, ends, parents, children, level)


def wrong(number, allowed):
    return isinstance(number, bool) or number not in allowed


def own_step(at):
    return max(size for size in (1, 2, 4) if at[0] % size == 0 and at[1] % size == 0)


def own_ends_and_facing(at):
    """The long side's ends and the facing places, sentence by sentence of points 6 to 8."""
    x, y = at
    s = own_step(at)
    odd_x, odd_y = (x // s) % 2, (y // s) % 2
    if odd_x and odd_y:
        square = [(x - s, y - s), (x - s, y + s), (x + s, y - s), (x + s, y + s)]
        even = [place for place in square if (place[0] // (2 * s) + place[1] // (2 * s)) % 2 == 0]
        return even, [place for place in square if place not in even]
    across = [(x - s, y), (x + s, y)]
    along = [(x, y - s), (x, y + s)]
    return (across, along) if odd_x else (along, across)


def own_cuts(plan):
    return [at for at in places(plan) if at[0] % plan[2] or at[1] % plan[2]]


def own_parents(plan, at):
    known = set(own_cuts(plan))
    return sorted(place for place in own_ends_and_facing(at)[1] if place in known)


class PlannedTest(unittest.TestCase):
    def test_every_try(self):
        for wide, deep, side in itertools.product(BLOCK_TRIES, BLOCK_TRIES, SIDE_TRIES):
            faults = [number for number, allowed in ((wide, (1, 2, 3)), (deep, (1, 2, 3)), (side, (2, 4, 8)))
                      if wrong(number, allowed)]
            if not faults:
                told = planned(wide, deep, side=side)
                self.assertEqual(told, (wide, deep, side))
                self.assertIs(type(told), tuple)
                continue
            with self.assertRaises(BadSize) as caught:
                planned(wide, deep, side=side)
            self.assertIs(caught.exception.size, faults[0])

    def test_kind_of_the_refusal(self):
        with self.assertRaises(BadSize) as caught:
            planned(4)
        self.assertIsInstance(caught.exception, LandError)
        self.assertIsInstance(caught.exception, ValueError)
        self.assertNotIsInstance(caught.exception, LookError)
        self.assertNotIsInstance(caught.exception, LookupError)

    def test_left_out(self):
        self.assertEqual(SIDE, 4)
        self.assertEqual(planned(), (1, 1, 4))
        self.assertEqual(planned(3), (3, 1, 4))
        self.assertEqual(planned(3, 2), (3, 2, 4))
        self.assertEqual(planned(deep=2), (1, 2, 4))
        self.assertEqual(planned(side=8), (1, 1, 8))
        self.assertEqual(planned(2, side=2), (2, 1, 2))

    def test_by_place_and_by_name(self):
        self.assertEqual(planned(side=8, deep=2, wide=3), (3, 2, 8))
        self.assertEqual(planned(3, side=8, deep=2), (3, 2, 8))
        self.assertEqual(signature(planned), [("wide", False, 1), ("deep", False, 1), ("side", True, 4)])
        with self.assertRaises(TypeError):
            planned(1, 1, 4)

    def test_all_twenty_seven(self):
        self.assertEqual([planned(wide, deep, side=side) for wide, deep, side in PLANS], PLANS)
        self.assertEqual(len(PLANS), 27)


class PlacesTest(unittest.TestCase):
    def test_corners_and_cuts_in_order(self):
        for plan in PLANS:
            wide, deep, side = plan
            asked = [(i * side, j * side) for i in range(wide + 1) for j in range(deep + 1)]
            self.assertEqual(corners(plan), asked)
            self.assertEqual(cuts(plan), own_cuts(plan))
            self.assertEqual(sorted(corners(plan) + cuts(plan)), places(plan))
            for told in corners(plan) + cuts(plan):
                self.assertIs(type(told), tuple)

    def test_small_example(self):
        plan = (2, 1, 2)
        self.assertEqual(corners(plan), [(0, 0), (0, 2), (2, 0), (2, 2), (4, 0), (4, 2)])
        self.assertEqual(
            cuts(plan), [(0, 1), (1, 0), (1, 1), (1, 2), (2, 1), (3, 0), (3, 1), (3, 2), (4, 1)])

    def test_is_corner(self):
        for plan in PLANS:
            known = set(own_cuts(plan))
            for at in places(plan):
                self.assertIs(is_corner(plan, at), at not in known)

    def test_lists_are_made_for_the_asker(self):
        plan = (2, 1, 4)
        for function in (corners, cuts):
            first = function(plan)
            kept = list(first)
            self.assertIs(type(first), list)
            first.reverse()
            first.append((99, 99))
            self.assertEqual(function(plan), kept)
        for function in (parents, children):
            for at in cuts(plan):
                first = function(plan, at)
                kept = list(first)
                self.assertIs(type(first), list)
                first.append((99, 99))
                self.assertEqual(function(plan, at), kept)

    def test_signatures(self):
        for function in (corners, cuts):
            self.assertEqual(signature(function), plain("plan"))
        for function in (is_corner,) + OF_CUTS:
            self.assertEqual(signature(function), plain("plan", "at"))
        plan, at = (1, 1, 4), (2, 0)
        self.assertEqual((corners(plan=plan)[0], cuts(plan=plan)[0]), ((0, 0), (0, 1)))
        self.assertIs(is_corner(at=at, plan=plan), False)
        self.assertEqual(step(at=at, plan=plan), 2)
        self.assertEqual(ends(at=at, plan=plan), ((0, 0), (4, 0)))
        self.assertEqual(parents(at=at, plan=plan), [(2, 2)])
        self.assertEqual(children(at=at, plan=plan), [(1, 1), (3, 1)])
        self.assertEqual(level(at=at, plan=plan), 1)


class RefusalTest(unittest.TestCase):
    def test_no_place_beyond_each_rim(self):
        for plan in PLANS:
            for at in beyond(plan):
                for function in (is_corner,) + OF_CUTS:
                    with self.assertRaises(NoPlace) as caught:
                        function(plan, at)
                    self.assertIs(type(caught.exception.at), tuple)
                    self.assertTrue(caught.exception.at == at)

    def test_no_cut_for_corners(self):
        for plan in PLANS:
            for at in corners(plan):
                for function in OF_CUTS:
                    with self.assertRaises(NoCut) as caught:
                        function(plan, at)
                    self.assertEqual(caught.exception.at, at)

    def test_no_place_goes_ahead_of_no_cut(self):
        for plan in PLANS:
            wide, deep, side = plan
            for at in ((-side, 0), (0, -side), ((wide + 1) * side, 0), (0, (deep + 1) * side)):
                for function in OF_CUTS:
                    with self.assertRaises(NoPlace):
                        function(plan, at)

    def test_corner_of_one_plan_may_be_a_cut_of_another(self):
        self.assertIs(is_corner((1, 1, 2), (2, 2)), True)
        self.assertIs(is_corner((1, 1, 4), (2, 2)), False)


class KinTest(unittest.TestCase):
    def test_step(self):
        for plan in PLANS:
            for at in own_cuts(plan):
                self.assertEqual(step(plan, at), own_step(at))
        self.assertEqual(step((1, 1, 8), (4, 8)), 4)
        self.assertEqual(step((1, 1, 8), (4, 2)), 2)
        self.assertEqual(step((1, 1, 8), (8, 7)), 1)

    def test_centres_and_middles_of_edges(self):
        for plan in PLANS:
            for at in own_cuts(plan):
                size = step(plan, at)
                odd = [(number // size) % 2 for number in at]
                self.assertGreaterEqual(sum(odd), 1)
                (first, second), facing = ends(plan, at), own_ends_and_facing(at)[1]
                straight = first[0] == second[0] or first[1] == second[1]
                self.assertEqual(straight, sum(odd) == 1)
                self.assertEqual(len(facing), 2)

    def test_ends(self):
        for plan in PLANS:
            for at in own_cuts(plan):
                told = ends(plan, at)
                self.assertIs(type(told), tuple)
                self.assertEqual([type(place) for place in told], [tuple, tuple])
                self.assertEqual(list(told), sorted(own_ends_and_facing(at)[0]))
                (ax, ay), (bx, by) = told
                self.assertEqual((ax + bx, ay + by), (2 * at[0], 2 * at[1]))
                self.assertTrue(set(told) <= set(places(plan)))

    def test_ends_examples(self):
        plan = (2, 2, 4)
        self.assertEqual(ends(plan, (2, 2)), ((0, 0), (4, 4)))
        self.assertEqual(ends(plan, (6, 2)), ((4, 4), (8, 0)))
        self.assertEqual(ends(plan, (2, 6)), ((0, 8), (4, 4)))
        self.assertEqual(ends(plan, (6, 6)), ((4, 4), (8, 8)))
        self.assertEqual(ends(plan, (1, 3)), ((0, 4), (2, 2)))
        self.assertEqual(ends(plan, (4, 2)), ((4, 0), (4, 4)))
        self.assertEqual(ends(plan, (1, 2)), ((0, 2), (2, 2)))

    def test_parents(self):
        for plan in PLANS:
            for at in own_cuts(plan):
                self.assertEqual(parents(plan, at), own_parents(plan, at))

    def test_parents_examples(self):
        plan = (2, 1, 4)
        self.assertEqual(parents(plan, (2, 2)), [])
        self.assertEqual(parents(plan, (2, 0)), [(2, 2)])
        self.assertEqual(parents(plan, (0, 2)), [(2, 2)])
        self.assertEqual(parents(plan, (8, 2)), [(6, 2)])
        self.assertEqual(parents(plan, (4, 2)), [(2, 2), (6, 2)])
        self.assertEqual(parents(plan, (1, 1)), [(0, 2), (2, 0)])
        self.assertEqual(parents(plan, (1, 2)), [(1, 1), (1, 3)])
        self.assertEqual(parents(plan, (0, 1)), [(1, 1)])

    def test_children(self):
        for plan in PLANS:
            kin = {at: [] for at in own_cuts(plan)}
            for at in own_cuts(plan):
                for parent in own_parents(plan, at):
                    kin[parent].append(at)
            for at, asked in kin.items():
                self.assertEqual(children(plan, at), asked, (plan, at))

    def test_children_examples(self):
        plan = (1, 1, 4)
        self.assertEqual(children(plan, (2, 2)), [(0, 2), (2, 0), (2, 4), (4, 2)])
        self.assertEqual(children(plan, (0, 2)), [(1, 1), (1, 3)])
        self.assertEqual(children(plan, (1, 1)), [(0, 1), (1, 0), (1, 2), (2, 1)])
        self.assertEqual(children(plan, (0, 1)), [])

    def test_level(self):
        for plan in PLANS:
            side = plan[2]
            for at in own_cuts(plan):
                told = level(plan, at)
                elders = own_parents(plan, at)
                if at[0] % side == at[1] % side == side // 2:
                    self.assertEqual((told, elders), (0, []))
                    continue
                self.assertTrue(elders)
                for elder in elders:
                    self.assertEqual(told, level(plan, elder) + 1)

    def test_level_examples(self):
        plan = (1, 1, 8)
        along = [(4, 4), (4, 0), (2, 2), (2, 0), (1, 1), (1, 0)]
        self.assertEqual([level(plan, at) for at in along], [0, 1, 2, 3, 4, 5])
        self.assertEqual({level((3, 3, 2), at) for at in cuts((3, 3, 2))}, {0, 1})


if __name__ == "__main__":
    unittest.main()
