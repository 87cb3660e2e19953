import copy
import itertools
import unittest
from fractions import Fraction

from braemantle.errors import LandError, OtherPlan, TooFew
from braemantle.land import Land
from braemantle.least import budget, checked, least, reasons
from braemantle.mesh import Mesh
from braemantle.views import View
from plans import (
    GREAT, PLANS, VAST, Case, every_cut, handed_boxes, kin_of_cuts, land_of, own_above, own_crack, own_gaps, own_lets,
    own_roots, own_shapes, own_triangles, pair, plain, seeded, signature, some_views)

EACH_SIDE = [(1, 1, 2), (2, 1, 2), (3, 2, 2), (1, 1, 4), (1, 2, 4), (2, 2, 4), (1, 1, 8)]


def made(tolerance, eye, boxes):
    return View(pair(tolerance), eye=eye, boxes=handed_boxes(boxes))


def own_errors(land):
    return {shape: gap[0] for shape, gap in own_gaps(land.plan, land.rows()).items()}


def middle(shape):
    return ((shape[0] + shape[2]) // 2, (shape[1] + shape[3]) // 2)


def own_least(plan, bad):
    """The cuts of the least mesh without a bad triangle, by going round till nothing is cut any more."""
    cuts = []
    while True:
        more = [middle(shape) for shape in own_triangles(plan, cuts) if bad[shape]]
        if not more:
            return cuts
        cuts = own_above(plan, cuts + more)


def all_closed(plan):
    """All closed sets of a small plan."""
    every = every_cut(plan)
    for many in range(len(every) + 1):
        for some in itertools.combinations(every, many):
            if own_crack(plan, some) is None:
                yield list(some)


def bad_of(errors, tolerance, eye, boxes):
    return {shape: not own_lets(error, tolerance, eye, boxes, shape) for shape, error in errors.items()}


def lands(plan, word):
    """Rough and smooth lands of a plan, and one with a single peak."""
    peak = Land(plan)
    peak.put(every_cut(plan)[len(every_cut(plan)) // 3], 100)
    return [land_of(plan, word), land_of(plan, word + "smooth", 12), peak]


class LeastTest(Case):
    def test_against_all_closed_sets(self):
        for plan in [(1, 1, 2), (2, 1, 2), (1, 2, 2)]:
            closed = list(all_closed(plan))
            for land in lands(plan, "closed"):
                errors = own_errors(land)
                for tolerance, eye, boxes in some_views(plan, seeded("closed", plan)):
                    bad = bad_of(errors, tolerance, eye, boxes)
                    good = [set(cuts) for cuts in closed if not any(bad[shape] for shape in own_triangles(plan, cuts))]
                    told = least(land, made(tolerance, eye, boxes))
                    self.assertEqual(told.cuts(), sorted(set.intersection(*good)))
                    self.assertIn(set(told.cuts()), good)

    def test_by_going_round(self):
        for plan in EACH_SIDE:
            for land in lands(plan, "round"):
                errors = own_errors(land)
                for tolerance, eye, boxes in some_views(plan, seeded("round", plan)):
                    bad = bad_of(errors, tolerance, eye, boxes)
                    told = least(land, made(tolerance, eye, boxes))
                    self.assertIsInstance(told, Mesh)
                    self.assertEqual((told.plan, told.cuts()), (plan, own_least(plan, bad)))
                    self.assertFalse(any(bad[shape] for shape in told.triangles()))

    def test_all_plans(self):
        for plan in PLANS:
            land = land_of(plan, "all", 60)
            for view in (View(45), View(9, eye=(0, 0)), View((121, 2), boxes=[(1, 1, 3, 2, 12)])):
                told = least(land, view)
                bad = {shape: not view.lets(land, shape) for shape in own_shapes(plan)}
                self.assertEqual(told.cuts(), own_least(plan, bad))

    def test_looser_views_have_no_other_cuts(self):
        for plan in EACH_SIDE:
            land = land_of(plan, "looser", 90)
            elder = set(every_cut(plan))
            for tolerance in (0, 1, (7, 2), 20, 45, 80, 120, 180, 200):
                cuts = set(least(land, View(tolerance)).cuts())
                self.assertLessEqual(cuts, elder)
                self.assertLessEqual(set(least(land, View(tolerance, eye=(1, 2))).cuts()), cuts)
                self.assertLessEqual(cuts, set(least(land, View(tolerance, boxes=[(0, 0, 1, 1, 0)])).cuts()))
                elder = cuts
            self.assertEqual(elder, set())

    def test_nought(self):
        for plan in EACH_SIDE:
            land = land_of(plan, "nought")
            told = least(land, View(0))
            for shape in told.triangles():
                self.assertEqual(land.gap(shape)[0], (0, 1))
            flat = Land(plan)
            self.assertEqual(least(flat, View(0)).cuts(), [])
            self.assertEqual(reasons(flat, View(0)), [])

    def test_great_tolerances(self):
        land = land_of((1, 1, 4), "great")
        for tolerance in (VAST, GREAT, (VAST, 3)):
            self.assertEqual(least(land, View(tolerance)), Mesh((1, 1, 4)))
        self.assertEqual(least(land, View((1, VAST))), least(land, View(0)))

    def test_one_peak(self):
        land = Land((2, 1, 4))
        land.put((4, 2), 8)
        self.assertEqual(least(land, View(8)).cuts(), [])
        self.assertEqual(least(land, View((15, 2))).cuts(), own_above((2, 1, 4), [(4, 2)]))
        self.assertEqual(least(land, View(7, boxes=[(3, 1, 5, 3, 8)])).cuts(), [])

    def test_behind_deeds(self):
        for plan in EACH_SIDE[:5]:
            land, view = land_of(plan, "deeds", 40), View(22, eye=(2, 1))
            for deed in (lambda: land.put((1, 1), 300), lambda: land.lift((0, 0), (1, 2), by=-90), land.undo,
                         land.undo, land.redo):
                deed()
                bad = bad_of(own_errors(land), Fraction(22), (2, 1), [])
                self.assertEqual(least(land, view).cuts(), own_least(plan, bad))

    def test_land_stays_as_it_was(self):
        land = land_of((1, 2, 4), "stays")
        land.put((1, 1), 5)
        land.undo()
        before = (land.rows(), land.edition, land.tries, land.since((1, 1)))
        view = View(40, eye=(1, 1))
        mesh = least(land, view)
        checked(land, view, mesh, reasons(land, view))
        budget(land, most=9)
        self.assertEqual((land.rows(), land.edition, land.tries, land.since((1, 1))), before)
        land.redo()
        self.assertEqual(land.height((1, 1)), 5)

    def test_interface(self):
        self.assertEqual(signature(least), plain("land", "view"))
        self.assertEqual(signature(reasons), plain("land", "view"))
        self.assertEqual(signature(checked), plain("land", "view", "mesh", "rows"))
        self.assertEqual(signature(budget), plain("land") + [("most", True, plain("most")[0][2])])

    def test_by_name(self):
        land, view = land_of((1, 1, 4), "names", 30), View(9)
        mesh, rows = least(view=view, land=land), reasons(view=view, land=land)
        self.assertEqual((mesh, rows), (least(land, view), reasons(land, view)))
        self.assertIs(checked(rows=rows, mesh=mesh, view=view, land=land), True)
        self.assertEqual(budget(most=7, land=land), budget(land, most=7))


class ReasonsTest(Case):
    def walk(self, plan, errors, view, rows):
        """Walks a paper row by row by the sentences of point 35; tells its cuts in order."""
        tolerance, eye, boxes = view
        parents = kin_of_cuts(plan)[0]
        self.assertIs(type(rows), list)
        ahead = []
        for row in rows:
            self.assertIs(type(row), tuple)
            word, at, thing = row
            self.assertNotIn(at, ahead)
            if word == "far":
                self.assertIn(thing, own_shapes(plan))
                self.assertEqual(((thing[0] + thing[2]) % 2, (thing[1] + thing[3]) % 2, middle(thing)), (0, 0, at))
                self.assertFalse(own_lets(errors[thing], tolerance, eye, boxes, thing))
                self.assertTrue(thing[4:] in ahead or thing[4:] not in every_cut(plan))
            else:
                self.assertEqual(word, "asked")
                self.assertIn(thing, ahead)
                self.assertIn(at, parents[thing])
            ahead.append(at)
        return sorted(ahead)

    def test_walked_row_by_row(self):
        words = set()
        for plan in EACH_SIDE:
            for land in lands(plan, "rows"):
                errors = own_errors(land)
                for view in some_views(plan, seeded("rows", plan)):
                    rows = reasons(land, made(*view))
                    cuts = self.walk(plan, errors, view, rows)
                    self.assertEqual(cuts, least(land, made(*view)).cuts())
                    words |= {row[0] for row in rows}
        self.assertEqual(words, {"far", "asked"})

    def test_told_list_is_made_for_its_asker(self):
        land, view = land_of((1, 1, 4), "asker"), View(9)
        told = reasons(land, view)
        kept = list(told)
        del told[:]
        self.assertEqual(reasons(land, view), kept)
        self.assertTrue(kept)


class CheckedTest(Case):
    def papers(self, word):
        """Lands with views, their least meshes and papers that are not short."""
        found = []
        for plan in EACH_SIDE:
            for land in lands(plan, word)[::2]:
                for view in some_views(plan, seeded(word, plan)):
                    view = made(*view)
                    rows = reasons(land, view)
                    if rows:
                        found.append((land, view, least(land, view), rows))
        return found

    def test_told_lists_are_papers(self):
        for land, view, mesh, rows in self.papers("told"):
            handed = copy.deepcopy(rows)
            self.assertIs(checked(land, view, mesh, handed), True)
            self.assertEqual(handed, rows)

    def test_of_another_mesh(self):
        for land, view, mesh, rows in self.papers("mesh")[::3]:
            plan = land.plan
            others = [Mesh(plan), Mesh(plan, every_cut(plan))]
            others += [Mesh(plan, own_above(plan, mesh.cuts() + [at])) for at in every_cut(plan)[::5]]
            others += [mesh.mend(at) for at in mesh.cuts() if not set(kin_of_cuts(plan)[1][at]) & set(mesh.cuts())]
            for other in others:
                self.assertIs(checked(land, view, other, rows), other == mesh)

    def test_of_another_view(self):
        land = land_of((1, 1, 4), "view", 50)
        rows, mesh = reasons(land, View(20)), least(land, View(20))
        self.assertTrue(10 < len(rows))
        self.assertIs(checked(land, View(0), mesh, rows), False)
        self.assertIs(checked(land, View(200), mesh, rows), False)
        self.assertIs(checked(land, View(20, eye=(2, 2)), mesh, rows), False)

    def test_a_triangle_that_is_not_let(self):
        # Each row holds, and the cuts are just those of the mesh; but the mesh is not good.
        for land, view, mesh, rows in self.papers("short")[::2]:
            for many in range(len(rows)):
                cuts = [row[1] for row in rows[:many]]
                if own_crack(land.plan, cuts) is None:
                    short = Mesh(land.plan, cuts)
                    self.assertIs(checked(land, view, short, rows[:many]), False)
                    self.assertFalse(all(view.lets(land, shape) for shape in short.triangles()))

    def test_a_good_mesh_with_a_row_that_does_not_hold(self):
        # The wider mesh is good, too, and but for the last row all is as it should be; but that triangle is let.
        land, view, tried = Land((1, 1, 4)), View(3), 0
        land.put((2, 2), 50)
        mesh, rows = least(land, view), reasons(land, view)
        for shape in own_shapes((1, 1, 4)):
            at = middle(shape)
            if at in every_cut((1, 1, 4)) and at not in mesh.cuts() and shape in mesh.triangles():
                cuts = mesh.cuts() + [at]
                if own_crack((1, 1, 4), cuts) is None and (shape[0] + shape[2]) % 2 == 0 == (shape[1] + shape[3]) % 2:
                    self.assertIs(checked(land, view, Mesh((1, 1, 4), cuts), rows + [("far", at, shape)]), False)
                    tried += 1
        self.assertTrue(tried)

    def test_rows_left_out(self):
        for land, view, mesh, rows in self.papers("out")[::2]:
            for number in range(len(rows)):
                self.assertIs(checked(land, view, mesh, rows[:number] + rows[number + 1:]), False)

    def test_rows_twice(self):
        for land, view, mesh, rows in self.papers("twice")[::3]:
            for number in range(0, len(rows), 3):
                self.assertIs(checked(land, view, mesh, rows + [rows[number]]), False)
                self.assertIs(checked(land, view, mesh, rows[:number] + [rows[number]] + rows[number:]), False)

    def test_a_cut_for_two_reasons(self):
        # Both triangles of the block's centre are far, so either is a reason; but not both.
        land, view = Land((1, 1, 2)), View(1)
        land.put((1, 1), 9)
        both = [("far", (1, 1), (0, 0, 2, 2, 2, 0)), ("far", (1, 1), (2, 2, 0, 0, 0, 2))]
        mesh = least(land, view)
        self.assertEqual(mesh.cuts(), [(1, 1)])
        for row in both:
            self.assertIs(checked(land, view, mesh, [row]), True)
        self.assertIs(checked(land, view, mesh, both), False)

    def valid(self, land, view, mesh, rows):
        """Whether rows are a paper, by the sentences."""
        plan, ahead = land.plan, []
        parents = kin_of_cuts(plan)[0]
        for word, at, thing in rows:
            if at in ahead:
                return False
            if word == "far":
                if thing not in own_shapes(plan) or (thing[0] + thing[2]) % 2 or (thing[1] + thing[3]) % 2:
                    return False
                third = thing[4:] in ahead or thing[4:] not in parents
                if middle(thing) != at or view.lets(land, thing) or not third:
                    return False
            elif word != "asked" or thing not in ahead or at not in parents[thing]:
                return False
            ahead.append(at)
        return sorted(ahead) == mesh.cuts() and all(view.lets(land, shape) for shape in mesh.triangles())

    def test_rows_exchanged(self):
        seen = set()
        for land, view, mesh, rows in self.papers("exchanged"):
            chance = seeded("exchanged", land.plan)
            for _ in range(12):
                other = list(rows)
                one, two = [chance.randrange(len(rows)) for _ in range(2)]
                other[one], other[two] = other[two], other[one]
                told = checked(land, view, mesh, other)
                self.assertIs(told, self.valid(land, view, mesh, other))
                seen.add(told)
        self.assertEqual(seen, {True, False})

    def test_asked_ahead_of_its_child(self):
        # The peak leads to (4, 2) by triangles of the first block, and that asks for the flat second block's centre.
        land = Land((2, 1, 4))
        land.put((3, 2), 100)
        view = View(30)
        rows, mesh = reasons(land, view), least(land, view)
        asked = [number for number, row in enumerate(rows) if row[0] == "asked"]
        self.assertTrue(asked)
        for number in asked:
            first = [rows[number]] + rows[:number] + rows[number + 1:]
            self.assertIs(checked(land, view, mesh, first), False)

    def test_asked_by_a_cut_that_is_no_child(self):
        tried = 0
        for land, view, mesh, rows in self.papers("child"):
            children = kin_of_cuts(land.plan)[1]
            for number, (word, at, thing) in enumerate(rows):
                for other in [row[1] for row in rows[:number]]:
                    if word == "asked":
                        handed = rows[:number] + [("asked", at, other)] + rows[number + 1:]
                        self.assertIs(checked(land, view, mesh, handed), other in children[at])
                        tried += other not in children[at]
        self.assertTrue(tried)

    def test_things_exchanged(self):
        for land, view, mesh, rows in self.papers("things")[::2]:
            plan = land.plan
            wide, deep, side = plan
            chance = seeded("things", plan)
            pairs = every_cut(plan) + [(0, 0), (side, 0), (-1, 0), (0, -1), (wide * side + 1, 0), (1, deep * side + 1),
                                       (GREAT, 1), (-GREAT, -GREAT)]
            forms = list(own_shapes(plan)) + [(0, 0, 0, 0, 0, 0), (0, 0, side, side, 0, side), (-1, -1, 1, 1, 1, -1),
                                              (0, 0, 4 * side, 4 * side, 4 * side, 0), (GREAT, 0, 0, GREAT, 0, 0)]
            for _ in range(25):
                number = chance.randrange(len(rows))
                word, at, thing = rows[number]
                others = [("asked" if word == "far" else "far", at, thing), (word, chance.choice(pairs), thing),
                          (word, at, chance.choice(pairs)), (word, at, chance.choice(forms)),
                          ("near", at, thing), ("", at, thing), ("Far", at, thing), ("far ", at, thing)]
                other = list(rows)
                other[number] = chance.choice(others)
                handed = list(other)
                told = checked(land, view, mesh, handed)
                self.assertIs(told, self.valid(land, view, mesh, other), other[number])
                self.assertEqual(handed, other)

    def test_each_wrong_thing_by_itself(self):
        land, view = Land((1, 1, 4)), View(30)
        land.put((1, 1), -100)
        rows, mesh = reasons(land, view), least(land, view)
        self.assertIs(checked(land, view, mesh, rows), True)
        for wrong in [("far", (0, 0), (0, 0, 4, 4, 4, 0)), ("far", (2, 2), (0, 0, 4, 4, 0, 4)), ("far", (2, 2), (0, 0)),
                      ("far", (2, 2), (2, 2)), ("far", (-2, 2), (-4, 0, 0, 4, 0, 0)), ("asked", (2, 2), (2, 2)),
                      ("asked", (2, 2), (0, 0)), ("asked", (0, 0), (1, 1)), ("asked", (9, 9), (1, 1)),
                      ("asked", (2, 2), (99, 0)), ("asked", (2, 2), (0, 0, 4, 4, 4, 0)), ("seen", (2, 2), (1, 1)),
                      ("far", (VAST, 2), (0, 0, 4, 4, 4, 0)), ("asked", (2, 2), (VAST, VAST)),
                      ("far", (0, 0), (1, 0, 1, 1, 0, 0)), ("far", (2, 2), (VAST, 0, 0, 0, 0, VAST)),
                      ("far", (1, 0), (1, 1, 0, 0, 1, 0)), ("far", (0, 0), (0, 0, 1, 1, 1, 0))]:
            for number in range(len(rows) + 1):
                self.assertIs(checked(land, view, mesh, rows[:number] + [wrong] + rows[number:]), False)
                self.assertIs(checked(land, view, mesh, rows[:number] + [wrong] + rows[number + 1:]), False)
            self.assertIs(checked(land, view, Mesh((1, 1, 4)), [wrong]), False)

    def test_third_corner_is_not_there_yet(self):
        land, view = Land((1, 1, 4)), View(1)
        land.edit([((1, 1), 100), ((2, 2), 40)])
        rows, mesh = reasons(land, view), least(land, view)
        deep = [row for row in rows if row[0] == "far" and row[2][4:] in every_cut((1, 1, 4))]
        self.assertTrue(deep)
        for row in deep:
            self.assertIs(checked(land, view, mesh, [row] + [each for each in rows if each != row]), False)

    def test_no_rows(self):
        flat, rough = Land((1, 1, 4)), land_of((1, 1, 4), "none")
        self.assertIs(checked(flat, View(0), Mesh((1, 1, 4)), []), True)
        self.assertIs(checked(rough, View(0), Mesh((1, 1, 4)), []), False)
        self.assertIs(checked(flat, View(0), Mesh((1, 1, 4), [(2, 2)]), []), False)

    def test_other_plan(self):
        land = land_of((1, 2, 4), "plan")
        view = View(3)
        for plan in [(2, 1, 4), (1, 1, 4), (1, 2, 2), (1, 2, 8)]:
            for rows in ([], reasons(land, view), [("none", (VAST, 0), (0, 0))]):
                self.refused(OtherPlan, {}, checked, land, view, Mesh(plan), rows)
        self.assertTrue(issubclass(OtherPlan, LandError))

    def test_lands_by_turns(self):
        one, other = land_of((1, 1, 4), "one", 30), land_of((1, 1, 4), "other", 30)
        view = View(11)
        papers = [(land, least(land, view), reasons(land, view)) for land in (one, other)]
        for land, mesh, rows in papers:
            for each, its_mesh, its_rows in papers:
                self.assertIs(checked(each, view, mesh, rows), each is land)
        one.put((2, 2), 500)
        self.assertIs(checked(one, view, papers[0][1], papers[0][2]), False)
        one.undo()
        self.assertIs(checked(one, view, papers[0][1], papers[0][2]), True)


class BudgetTest(Case):
    def trial(self, land, mosts):
        """Each number of triangles against a trial of 0 and all errors."""
        plan = land.plan
        errors = own_errors(land)
        known = sorted(set(errors.values()) | {Fraction(0)})
        cuts = [own_least(plan, {shape: errors[shape] > each for shape in errors}) for each in known]
        many = [len(own_triangles(plan, each)) for each in cuts]
        for most in mosts:
            number = min(k for k in range(len(known)) if many[k] <= most)
            told = budget(land, most=most)
            self.assertIs(type(told), tuple)
            tolerance, mesh, below = told
            self.assertEqual((tolerance, mesh), (pair(known[number]), Mesh(plan, cuts[number])))
            self.assertEqual(below, pair(known[number - 1]) if number else None)

    def test_every_number(self):
        for plan in [(1, 1, 2), (2, 1, 2), (1, 3, 2), (1, 1, 4)]:
            for land in lands(plan, "every") + [Land(plan)]:
                start, end = len(own_roots(plan)), len(own_triangles(plan, every_cut(plan)))
                self.trial(land, list(range(start, end + 3)) + [GREAT, VAST])

    def test_blocks_of_side_8(self):
        for plan, high in [((1, 1, 8), 30), ((2, 1, 8), 1000), ((1, 2, 4), 6)]:
            start, end = len(own_roots(plan)), len(own_triangles(plan, every_cut(plan)))
            self.trial(land_of(plan, "eight", high), list(range(start, end + 2, 9)) + [start + 1, end - 1, end])

    def test_equal_errors(self):
        land = Land((1, 1, 4), [[(x * y) % 2 for x in range(5)] for y in range(5)])
        self.trial(land, range(2, 35))

    def test_behind_deeds(self):
        land = land_of((1, 1, 4), "deeds", 40)
        for deed in (lambda: land.put((2, 2), 900), land.undo, land.redo, lambda: land.lift((0, 0), (4, 1), by=60)):
            deed()
            self.trial(land, [2, 3, 8, 15, 31, 32])

    def test_none_below(self):
        flat = Land((1, 1, 4))
        self.assertEqual(budget(flat, most=2), ((0, 1), Mesh((1, 1, 4)), None))
        rough = land_of((1, 1, 4), "below")
        self.assertEqual(budget(rough, most=32)[0::2], ((0, 1), None))

    def test_no_mesh_of_so_many_has_less(self):
        for plan in [(1, 1, 2), (2, 1, 2)]:
            land = land_of(plan, "less", 20)
            errors = own_errors(land)
            for most in range(len(own_roots(plan)), 20):
                tolerance = Fraction(*budget(land, most=most)[0])
                for cuts in all_closed(plan):
                    shapes = own_triangles(plan, cuts)
                    if len(shapes) <= most:
                        self.assertGreaterEqual(max(errors[shape] for shape in shapes), tolerance)

    def test_too_few(self):
        for plan in PLANS:
            land = land_of(plan, "few", 5)
            roots = len(own_roots(plan))
            for most in [roots - 1, roots - 2, 1, 0, -1, -GREAT, -VAST]:
                if most < roots:
                    self.refused(TooFew, {"most": most}, budget, land, most=most)
            self.assertEqual(budget(land, most=roots)[1], Mesh(plan))
        self.assertTrue(issubclass(TooFew, LandError))


if __name__ == "__main__":
    unittest.main()
