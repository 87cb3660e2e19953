import inspect
import unittest
from fractions import Fraction

from braemantle.errors import BadView, LandError, LookError, NoTriangle
from braemantle.land import Land
from braemantle.views import View
from plans import (
    GREAT, VAST, Case, handed_boxes, land_of, own_far, own_gaps, own_lets, own_limit, own_shapes, pair, plain, seeded,
    signature, some_views)

EACH_SIDE = [(1, 1, 2), (2, 1, 2), (1, 1, 4), (1, 2, 4), (1, 1, 8)]
BELOW = [-1, -2, -GREAT, -VAST, (-1, 2), (-1, GREAT), (-GREAT, 3), (-5, 1)]
SHAPE = (0, 0, 4, 4, 4, 0)


def made(tolerance, eye, boxes):
    return View(pair(tolerance), eye=eye, boxes=handed_boxes(boxes))


class MakingTest(Case):
    def test_whole_tolerances_and_shares(self):
        for handed, told in [(0, (0, 1)), (7, (7, 1)), (VAST, (VAST, 1)), ((0, 1), (0, 1)), ((7, 1), (7, 1)),
                             ((1, 2), (1, 2)), ((GREAT, 7), (GREAT, 7)), ((1, GREAT), (1, GREAT))]:
            view = View(handed)
            self.assertTrue(view.tolerance == told)
            self.assertIs(type(view.tolerance), tuple)
            self.assertEqual(view.limit(SHAPE), told)

    def test_own_tolerance_below_nought(self):
        for wrong in BELOW:
            self.refused(BadView, {"wrong": wrong}, View, wrong)
            self.refused(BadView, {"wrong": wrong}, View, tolerance=wrong, eye=(0, 0), boxes=[(0, 0, 1, 1, 2)])
        self.assertTrue(issubclass(BadView, LandError))

    def test_tolerances_of_boxes_below_nought(self):
        for wrong in BELOW:
            for boxes in ([(0, 0, 1, 1, wrong)], ((0, 0, 1, 1, 0), (0, 0, 1, 1, wrong)),
                          [(9, 9, 9, 9, wrong), (0, 0, 1, 1, -77)], [(0, 0, 2, 2, (3, 4)), (-9, -9, -9, -9, wrong)]):
                self.refused(BadView, {"wrong": wrong}, View, 3, boxes=boxes)

    def test_own_tolerance_goes_first(self):
        self.refused(BadView, {"wrong": -1}, View, -1, boxes=[(0, 0, 1, 1, -2), (0, 0, 1, 1, -3)])
        self.refused(BadView, {"wrong": (-1, 3)}, View, (-1, 3), boxes=[(0, 0, 1, 1, -2)])
        self.refused(BadView, {"wrong": -2}, View, 0, boxes=[(0, 0, 1, 1, 5), (0, 0, 1, 1, -2), (0, 0, 1, 1, -3)])

    def test_eye_is_a_value(self):
        self.assertIsNone(View(1).eye)
        self.assertIsNone(View(1, eye=None).eye)
        for eye in [(0, 0), (2, 3), (-7, 99), (VAST, -VAST)]:
            self.assertTrue(View(1, eye=eye).eye == eye)

    def test_interface(self):
        self.assertEqual(signature(View), plain("tolerance") + [("eye", True, None), ("boxes", True, ())])
        self.assertEqual(signature(View.limit), plain("self", "shape"))
        self.assertEqual(signature(View.far), plain("self", "shape"))
        self.assertEqual(signature(View.lets), plain("self", "land", "shape"))
        self.assertTrue(inspect.isclass(View))


class LimitTest(Case):
    def test_by_any_two_opposite_corners(self):
        # The least box around the triangle goes from (2, 2) to (4, 4).
        shape = (2, 2, 4, 4, 4, 2)
        for x, y, xx, yy in [(4, 4, 6, 6), (0, 0, 2, 2), (4, 0, 9, 2), (0, 4, 2, 9), (4, 2, 5, 4), (3, 3, 3, 3),
                             (2, 4, 2, 4), (-GREAT, -GREAT, GREAT, GREAT), (0, 3, 9, 3), (3, 0, 3, 9)]:
            for box in [(x, y, xx, yy), (xx, yy, x, y), (x, yy, xx, y), (xx, y, x, yy)]:
                for boxes in ([box + (5,)], (box + ((5, 1),),)):
                    self.assertEqual(View(1, boxes=boxes).limit(shape), (5, 1), box)

    def test_boxes_that_miss(self):
        shape = (2, 2, 4, 4, 4, 2)
        for x, y, xx, yy in [(5, 2, 9, 4), (0, 0, 1, 9), (2, 5, 4, 9), (2, -9, 4, 1), (5, 5, 6, 6), (0, 0, 1, 1),
                             (-VAST, 0, 1, VAST), (5, 0, GREAT, 1)]:
            for box in [(x, y, xx, yy), (xx, yy, x, y), (x, yy, xx, y), (xx, y, x, yy)]:
                self.assertEqual(View(1, boxes=[box + (0,)]).limit(shape), (1, 1), box)

    def test_the_box_around_the_triangle_counts(self):
        # This box lies within the triangle's box, beyond its long side.
        self.assertEqual(View(9, boxes=[(0, 3, 1, 4, 2)]).limit(SHAPE), (2, 1))

    def test_least_of_several(self):
        boxes = [(0, 0, 1, 1, 6), (0, 0, 2, 2, (5, 2)), (0, 0, 9, 9, (11, 4)), (9, 9, 9, 9, 0)]
        self.assertEqual(View(1, boxes=boxes).limit(SHAPE), (5, 2))
        self.assertEqual(View(1, boxes=boxes[::-1]).limit(SHAPE), (5, 2))
        self.assertEqual(View(1, boxes=boxes[:1]).limit(SHAPE), (6, 1))
        self.assertEqual(View((1, 3), boxes=boxes[3:]).limit(SHAPE), (1, 3))
        self.assertEqual(View((1, 3), boxes=[]).limit(SHAPE), (1, 3))

    def test_a_box_may_have_nought(self):
        self.assertEqual(View(4, boxes=[(0, 0, 1, 1, 0)]).limit(SHAPE), (0, 1))
        self.assertEqual(View(4, boxes=[(0, 0, 1, 1, 7), (0, 0, 1, 1, 0)]).limit(SHAPE), (0, 1))

    def test_against_a_model(self):
        for plan in EACH_SIDE:
            for tolerance, eye, boxes in some_views(plan, seeded("limit", plan)):
                view = made(tolerance, eye, boxes)
                for shape in own_shapes(plan):
                    told = view.limit(shape)
                    self.assertEqual(told, pair(own_limit(tolerance, boxes, shape)))
                    self.assertIs(type(told), tuple)
                    self.assertEqual(view.far(shape), own_far(eye, shape))

    def test_nothing_is_refused(self):
        view = View(3, eye=(VAST, 1), boxes=[(0, 0, 1, 1, 2)])
        for shape in [(0, 0, 0, 0, 0, 0), (1, 1, 2, 2, 3, 3), (-5, -5, 1, 2, 7, 0), (VAST, VAST, 0, 0, 0, VAST),
                      (9, 9, 8, 8, 7, 9)]:
            self.assertTrue(view.limit(shape) == pair(own_limit(3, [(0, 0, 1, 1, Fraction(2))], shape)))
            self.assertTrue(view.far(shape) == own_far((VAST, 1), shape))

    def test_handed_boxes_changed_behind_the_call(self):
        boxes = [(0, 0, 1, 1, 6)]
        view = View(1, boxes=boxes)
        boxes[0] = (0, 0, 1, 1, 2)
        boxes.append((0, 0, 1, 1, 0))
        self.assertEqual(view.limit(SHAPE), (6, 1))
        del boxes[:]
        self.assertEqual(view.limit(SHAPE), (6, 1))

    def test_handed_boxes_stay(self):
        boxes = [(3, 3, 0, 0, (7, 2)), (1, 1, 0, 9, 6)]
        View(1, boxes=boxes).limit(SHAPE)
        self.assertEqual(boxes, [(3, 3, 0, 0, (7, 2)), (1, 1, 0, 9, 6)])

    def test_two_views_have_nothing_in_common(self):
        boxes = [(0, 0, 1, 1, 6)]
        one = View(1, eye=(0, 0), boxes=boxes)
        boxes.append((0, 0, 1, 1, 2))
        other = View(3, boxes=boxes)
        self.assertEqual([one.limit(SHAPE), other.limit(SHAPE), one.limit(SHAPE)], [(6, 1), (2, 1), (6, 1)])
        self.assertEqual((one.tolerance, one.eye, other.tolerance, other.eye), ((1, 1), (0, 0), (3, 1), None))


class FarTest(Case):
    def test_without_an_eye(self):
        for view in (View(3), View(0, eye=None), View(3, boxes=[(0, 0, 9, 9, 1)])):
            for shape in own_shapes((2, 1, 4)):
                self.assertEqual(view.far(shape), 1)

    def test_next_corner(self):
        for eye, asked in [((0, 0), 1), ((4, 4), 1), ((4, 0), 1), ((2, 2), 9), ((0, 4), 17), ((-3, -4), 26),
                           ((7, 8), 26), ((5, -2), 6), ((1, 0), 2), ((0, 1), 2)]:
            self.assertEqual(View(3, eye=eye).far(SHAPE), asked, eye)


class LetsTest(Case):
    def test_at_just_the_error(self):
        land = Land((1, 1, 2))
        root = (0, 0, 2, 2, 2, 0)
        land.put((1, 1), 7)
        self.assertEqual(land.gap(root)[0], (7, 1))
        for tolerance, asked in [(7, True), ((13, 2), False), (8, True), (6, False), ((7 * GREAT - 1, GREAT), False),
                                 ((7 * GREAT + 1, GREAT), True), (0, False), (VAST, True)]:
            self.assertIs(View(tolerance).lets(land, root), asked)

    def test_shares_as_errors(self):
        land = Land((1, 1, 2))
        root = (0, 0, 2, 2, 2, 0)
        land.put((0, 0), 3)
        self.assertEqual(land.gap(root)[0], (3, 2))
        for tolerance, asked in [((3, 2), True), ((4, 3), False), (1, False), (2, True), ((5, 3), True)]:
            self.assertIs(View(tolerance).lets(land, root), asked)

    def test_with_an_eye(self):
        land = Land((1, 1, 2))
        root = (0, 0, 2, 2, 2, 0)
        land.put((1, 1), 10)
        # From (4, 0), for one, far is 5: 5 * 4 ** 2 is less than 10 ** 2, and 5 * 5 ** 2 isn't.
        for eye, tolerance, asked in [((2, 2), 10, True), ((2, 2), 9, False), ((4, 0), 4, False), ((4, 0), 5, True),
                                      ((5, 0), 3, False), ((5, 0), (16, 5), True), ((3, 0), 7, False),
                                      ((3, 0), (71, 10), True), ((1, 1), 5, False), ((1, 1), 6, True)]:
            self.assertIs(View(tolerance, eye=eye).lets(land, root), asked, (eye, tolerance))

    def test_just_at_far_times_the_square(self):
        land = Land((1, 1, 2))
        root = (0, 0, 2, 2, 2, 0)
        land.put((1, 1), 12)
        # The eye is the root of 8 off the corner (2, 2), so far is 9 and the error may be three times the limit.
        for tolerance, asked in [(4, True), ((399, 100), False), ((401, 100), True), (3, False)]:
            self.assertIs(View(tolerance, eye=(4, 4)).lets(land, root), asked)

    def test_with_boxes(self):
        land = Land((1, 1, 2))
        first, second = (0, 0, 2, 2, 2, 0), (2, 2, 0, 0, 0, 2)
        land.put((1, 1), 10)
        self.assertIs(View(10, boxes=[(0, 0, 1, 1, 9)]).lets(land, first), False)
        self.assertIs(View(9, boxes=[(0, 0, 1, 1, 10)]).lets(land, first), True)
        self.assertIs(View(9, boxes=[(3, 0, 4, 4, 10)]).lets(land, first), False)
        half = (0, 2, 0, 0, 1, 1)
        land.put((0, 1), 20)
        self.assertIs(View(0, boxes=[(2, 0, 2, 2, 30)]).lets(land, second), True)
        self.assertIs(View(0, boxes=[(2, 0, 2, 2, 30)]).lets(land, half), False)

    def test_nought_lets_what_has_no_error(self):
        land = Land((2, 1, 4), [[3 * x - y for x in range(9)] for y in range(5)])
        for view in (View(0), View((0, 1), eye=(3, 3)), View(9, boxes=[(0, 0, 8, 8, 0)])):
            for shape in own_shapes((2, 1, 4)):
                self.assertIs(view.lets(land, shape), True)

    def test_against_a_model(self):
        for plan in EACH_SIDE:
            land = land_of(plan, "lets")
            errors = {shape: gap[0] for shape, gap in own_gaps(plan, land.rows()).items()}
            for tolerance, eye, boxes in some_views(plan, seeded("lets", plan)):
                view = made(tolerance, eye, boxes)
                for shape, error in errors.items():
                    self.assertIs(view.lets(land, shape), own_lets(error, tolerance, eye, boxes, shape))

    def test_no_triangle(self):
        for plan in EACH_SIDE:
            land = Land(plan)
            side = plan[2]
            for shape in [(0, 0, 0, 0, 0, 0), (0, 0, side, side, 0, side), (VAST, 0, 0, 0, 0, VAST),
                          (0, 0, 2 * side, 2 * side, 2 * side, 0), (side, 0, 0, side, side, side)]:
                for view in (View(3), View(0, eye=(1, 1), boxes=[(0, 0, 1, 1, 2)])):
                    self.refused(NoTriangle, {"shape": shape}, view.lets, land, shape)
        self.assertTrue(issubclass(NoTriangle, LookError))

    def test_one_view_asked_of_several_lands_by_turns(self):
        plan = (1, 1, 4)
        lands = [land_of(plan, word, 20) for word in ("one", "other")] + [Land(plan)]
        view = View(9, eye=(1, 3), boxes=[(0, 0, 1, 1, 4)])
        asked = [[View(9, eye=(1, 3), boxes=[(0, 0, 1, 1, 4)]).lets(land, shape) for land in lands]
                 for shape in own_shapes(plan)]
        self.assertEqual([[view.lets(land, shape) for land in lands] for shape in own_shapes(plan)], asked)
        wider = Land((2, 1, 4))
        self.assertIs(view.lets(wider, (8, 0, 4, 4, 8, 4)), True)
        self.refused(NoTriangle, {"shape": (8, 0, 4, 4, 8, 4)}, view.lets, lands[0], (8, 0, 4, 4, 8, 4))

    def test_behind_deeds_undo_and_redo(self):
        plan = (1, 1, 4)
        land = land_of(plan, "behind", 30)
        view = View(12, eye=(4, 0))

        def same():
            errors = {shape: gap[0] for shape, gap in own_gaps(plan, land.rows()).items()}
            for shape, error in errors.items():
                self.assertIs(view.lets(land, shape), own_lets(error, Fraction(12), (4, 0), [], shape))

        same()
        for deed in (lambda: land.put((2, 2), 200), lambda: land.edit([((0, 0), 9), ((1, 1), -80)]),
                     lambda: land.lift((0, 0), (2, 4), by=70), land.undo, land.undo, land.redo, land.undo, land.undo):
            deed()
            same()

    def test_land_stays_as_it_was(self):
        land = land_of((1, 1, 4), "stays")
        rows = land.rows()
        for shape in own_shapes((1, 1, 4)):
            View(3).lets(land, shape)
        self.assertEqual((land.rows(), land.edition, land.tries), (rows, 0, 0))

    def test_by_name(self):
        land = land_of((1, 1, 2), "names", 9)
        shape = (0, 0, 2, 2, 2, 0)
        view = View(boxes=((0, 0, 1, 1, 2),), tolerance=3, eye=(9, 9))
        same = View(3, eye=(9, 9), boxes=[(0, 0, 1, 1, 2)])
        self.assertEqual(view.limit(shape=shape), same.limit(shape))
        self.assertEqual(view.far(shape=shape), same.far(shape))
        self.assertEqual(view.lets(shape=shape, land=land), same.lets(land, shape))


if __name__ == "__main__":
    unittest.main()
