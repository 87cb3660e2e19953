import copy
import unittest
from unittest import mock

from braemantle.errors import BadHeight, BadSize, LandError, LookError, NoPlace, NothingLeft, NoTriangle
from braemantle.land import HIGH, Land
from braemantle.mesh import Mesh
from plans import (
    GREAT, PLANS, VAST, Case, beyond, own_gaps, own_kin, own_shapes, pair, places, plain, random_rows, seeded,
    signature)

SMALL = [(1, 1, 2), (2, 1, 2), (1, 3, 2), (1, 1, 4), (2, 1, 4)]
EACH_SIDE = [(1, 1, 2), (2, 2, 2), (3, 1, 2), (1, 1, 4), (1, 2, 4), (1, 1, 8)]
WRONG_HEIGHTS = [HIGH + 1, -HIGH - 1, GREAT, -GREAT, VAST, True, False, None, "1", 1.0, (1,), [1]]


class Like:
    """A plain model of a land: every state that it had is kept whole."""

    def __init__(self, plan, rows):
        self.plan = plan
        self.states = [copy.deepcopy(rows)]
        self.at = 0
        self.edition = self.tries = 0
        self.dates = {at: 0 for at in places(plan)}

    def rows(self):
        return self.states[self.at]

    def go(self, ahead, behind):
        """Both are states; the triangles that are told are those whose gaps differ."""
        self.edition += 1
        for x, y in places(self.plan):
            if ahead[y][x] != behind[y][x]:
                self.dates[(x, y)] = self.edition
        before, after = own_gaps(self.plan, ahead), own_gaps(self.plan, behind)
        return [shape for shape in own_shapes(self.plan) if before[shape] != after[shape]]

    def edit(self, changes):
        self.tries += 1
        ahead = self.rows()
        behind = copy.deepcopy(ahead)
        for (x, y), high in changes:
            behind[y][x] = high
        self.states[self.at + 1:] = [behind]
        self.at += 1
        return self.go(ahead, behind)

    def put(self, at, high):
        return self.edit([(at, high)])

    def lift(self, one, other, by=1):
        rows = self.rows()
        return self.edit([((x, y), rows[y][x] + by) for x, y in places(self.plan)
                          if min(one[0], other[0]) <= x <= max(one[0], other[0])
                          and min(one[1], other[1]) <= y <= max(one[1], other[1])])

    def undo(self):
        self.tries += 1
        self.at -= 1
        return self.go(self.states[self.at + 1], self.rows())

    def redo(self):
        self.tries += 1
        self.at += 1
        return self.go(self.states[self.at - 1], self.rows())


class LandTest(Case):
    def same(self, land, like):
        self.assertEqual(land.rows(), like.rows())
        self.assertEqual((land.edition, land.tries), (like.edition, like.tries))
        self.assertEqual({at: land.since(at) for at in places(like.plan)}, like.dates)
        self.assertEqual(land.plan, like.plan)

    def start(self, plan, word):
        rows = random_rows(plan, seeded(word, plan))
        return Land(plan, rows), Like(plan, rows)


class MakingTest(LandTest):
    def test_rows_left_out_and_none(self):
        self.assertEqual(HIGH, 1000)
        for plan in PLANS:
            wide, deep, side = plan
            flat = [[0] * (wide * side + 1) for _ in range(deep * side + 1)]
            for land in (Land(plan), Land(plan, None), Land(plan, rows=None), Land(rows=flat, plan=plan)):
                self.assertEqual(land.rows(), flat)
                self.assertEqual((land.plan, land.edition, land.tries), (plan, 0, 0))

    def test_rows_and_height(self):
        for plan in PLANS:
            rows = random_rows(plan, seeded("rows", plan))
            land = Land(plan, rows)
            self.assertEqual(land.rows(), rows)
            for x, y in places(plan):
                self.assertEqual(land.height((x, y)), rows[y][x])
                self.assertEqual(land.since((x, y)), 0)
            self.assertEqual(land.height(at=(1, 0)), rows[0][1])

    def test_example(self):
        land = Land((2, 1, 2), [[1, 2, 3, 4, 5], [6, 7, 8, 9, 10], [11, 12, 13, 14, 15]])
        self.assertEqual([land.height(at) for at in ((0, 0), (4, 0), (0, 2), (3, 1))], [1, 5, 11, 9])

    def test_greatest_heights(self):
        rows = [[HIGH, -HIGH, 0], [-HIGH, HIGH, -HIGH], [0, 999, -999]]
        self.assertEqual(Land((1, 1, 2), rows).rows(), rows)

    def test_number_of_rows(self):
        for plan in PLANS:
            good = random_rows(plan, seeded("number", plan))
            for rows in ([], good[:-1], good[:1], good + good[:1], good + good, good + [[]]):
                if len(rows) != len(good):
                    self.refused(BadSize, {"size": len(rows)}, Land, plan, rows)
        self.assertTrue(issubclass(BadSize, LandError))

    def test_heights_in_a_row(self):
        for plan in PLANS:
            for number in range(plan[1] * plan[2] + 1):
                for many in (0, 1, plan[0] * plan[2], plan[0] * plan[2] + 2, 99):
                    rows = random_rows(plan, seeded("many", plan))
                    rows[number] = [0] * many
                    self.refused(BadSize, {"size": many}, Land, plan, rows)

    def test_the_first_size_that_is_wrong(self):
        plan = (1, 1, 2)
        self.refused(BadSize, {"size": 2}, Land, plan, [[0, 0, 0], [0, 0], [0, 0, 0, 0]])
        self.refused(BadSize, {"size": 4}, Land, plan, [[0, 0, 0], [0, 0, 0, 0], [0, 0]])
        self.refused(BadSize, {"size": 2}, Land, plan, [[0], [0, 0, 0, 0]])
        self.refused(BadSize, {"size": 4}, Land, plan, [[0, 0, 0], [0, 0], [0, 0, 0], [0]])
        self.refused(BadSize, {"size": 2}, Land, plan, [[0, 0, 5000], [True, 0, 0], [0, 0]])
        self.refused(BadSize, {"size": 2}, Land, plan, [[5000, 0, 0], [0, 0, 0]])
        self.refused(BadSize, {"size": 5}, Land, (2, 1, 4), [[0] * 5] * 5)

    def test_wrong_heights(self):
        for plan in SMALL:
            for x, y in places(plan):
                for high in WRONG_HEIGHTS:
                    rows = random_rows(plan, seeded("wrong", plan))
                    rows[y][x] = high
                    self.refused(BadHeight, {"at": (x, y), "high": high}, Land, plan, rows)
        self.assertTrue(issubclass(BadHeight, LandError))

    def test_the_first_height_row_by_row(self):
        rows = [[0, 0, 0], [0, 0, 1001], [-1001, 0, 0]]
        self.refused(BadHeight, {"at": (2, 1), "high": 1001}, Land, (1, 1, 2), rows)
        rows = [[0, True, 7000], [None, 0, 0], [0, 0, 0]]
        self.refused(BadHeight, {"at": (1, 0), "high": True}, Land, (1, 1, 2), rows)

    def test_handed_and_told_rows_changed_behind_the_call(self):
        plan = (1, 1, 2)
        handed = [[1, 2, 3], [4, 5, 6], [7, 8, 9]]
        kept = copy.deepcopy(handed)
        land = Land(plan, handed)
        self.assertEqual(handed, kept)
        handed[1][1] = 77
        handed[0].append(3)
        handed.pop()
        self.assertEqual(land.rows(), kept)
        told = land.rows()
        self.assertEqual({type(told)} | {type(row) for row in told}, {list})
        told[2][0] = -5
        told[1].clear()
        told.append([])
        self.assertEqual(land.rows(), kept)
        one = [1, 2, 3]
        land = Land(plan, [one, one, one])
        land.put((0, 0), 9)
        self.assertEqual((land.rows(), one), ([[9, 2, 3], [1, 2, 3], [1, 2, 3]], [1, 2, 3]))
        told = Land(plan).rows()
        told[0][0] = 1
        self.assertEqual(told[1], [0, 0, 0])

    def test_no_place(self):
        for plan in PLANS:
            land = Land(plan)
            for at in beyond(plan):
                self.refused(NoPlace, {"at": at}, land.height, at)
                self.refused(NoPlace, {"at": at}, land.since, at)
            self.assertEqual((land.tries, land.edition), (0, 0))

    def test_signatures(self):
        self.assertEqual(signature(Land), plain("plan") + [("rows", False, None)])
        for name in ("rows", "undo", "redo"):
            self.assertEqual(signature(getattr(Land, name)), plain("self"))
        for name in ("height", "since"):
            self.assertEqual(signature(getattr(Land, name)), plain("self", "at"))
        for name in ("gap", "bound", "knows"):
            self.assertEqual(signature(getattr(Land, name)), plain("self", "shape"))
        self.assertEqual(signature(Land.put), plain("self", "at", "high"))
        self.assertEqual(signature(Land.edit), plain("self", "changes"))
        self.assertEqual(signature(Land.lift), plain("self", "one", "other") + [("by", True, 1)])


class EqualTest(LandTest):
    def test_lands(self):
        for plan in PLANS:
            rows = random_rows(plan, seeded("equal", plan))
            one, other = Land(plan, rows), Land(plan, rows)
            self.assertIs(one == other, True)
            self.assertIs(one != other, False)
            for x, y in places(plan)[::max(1, len(places(plan)) // 9)]:
                changed = copy.deepcopy(rows)
                changed[y][x] = 5 if rows[y][x] != 5 else 6
                self.assertIs(one == Land(plan, changed), False)
                self.assertIs(one != Land(plan, changed), True)

    def test_other_plans(self):
        for plan in PLANS[::3]:
            for other in PLANS[::3]:
                self.assertIs(Land(plan) == Land(other), plan == other)
        # Both have five rows of five heights.
        for one, other in (((2, 2, 2), (1, 1, 4)), ((2, 2, 4), (1, 1, 8))):
            self.assertEqual(Land(one).rows(), Land(other).rows())
            self.assertIs(Land(one) == Land(other), False)
            self.assertIs(Land(other) != Land(one), True)

    def test_behind_deeds_and_undo(self):
        one, other = Land((1, 1, 2)), Land((1, 1, 2))
        one.put((1, 1), 4)
        self.assertIs(one == other, False)
        other.lift((1, 1), (1, 1), by=4)
        self.assertIs(one == other, True)
        one.put((1, 1), 4)
        self.assertIs(one == other, True)
        one.undo()
        one.undo()
        self.assertIs(other == one, False)
        other.undo()
        self.assertIs(other == one, True)
        self.assertNotEqual(one.edition, other.edition)
        self.assertIs(one == Land((1, 1, 2)), True)
        one.redo()
        self.assertIs(other != one, True)

    def test_things_that_are_no_land(self):
        land = Land((1, 1, 2))
        for thing in (None, 0, False, "", [], {}, (), land.rows(), land.plan, object(), Land, Mesh((1, 1, 2))):
            self.assertIs(land == thing, False)
            self.assertIs(thing == land, False)
            self.assertIs(land != thing, True)
            self.assertIs(thing != land, True)
        alike = mock.Mock(plan=land.plan, rows=land.rows, heights=land.heights, height=land.height)
        self.assertIs(land == alike, False)


class DeedsTest(LandTest):
    def walk(self, plan, word, many):
        chance = seeded(word, plan)
        land, like = self.start(plan, word)
        every = places(plan)
        for _ in range(many):
            deed = chance.choice(["put", "put", "edit", "lift", "undo", "undo", "redo", "wrong"])
            if deed == "put":
                things = (chance.choice(every), chance.choice([0, 1000, -1000, chance.randint(-1000, 1000)]))
                self.assertEqual(land.put(*things), like.put(*things))
            elif deed == "edit":
                some = chance.choices(every, k=chance.randint(0, 4))
                changes = [(at, chance.randint(-3, 3)) for at in some * 2]
                self.assertEqual(land.edit(list(changes)), like.edit(changes))
            elif deed == "lift":
                self.walk_lift(land, like, chance)
            elif deed == "wrong":
                like.tries += 1
                self.refused(BadHeight, {}, land.put, chance.choice(every), 1001)
            elif deed == "undo" and like.at > 0:
                self.assertEqual(land.undo(), like.undo())
            elif deed == "redo" and like.at < len(like.states) - 1:
                self.assertEqual(land.redo(), like.redo())
            elif deed in ("undo", "redo"):
                like.tries += 1
                self.refused(NothingLeft, {}, getattr(land, deed))
            self.same(land, like)
        self.to_both_ends(land, like)

    def walk_lift(self, land, like, chance):
        one, other = chance.choices(places(like.plan), k=2)
        left, right = sorted([one[0], other[0]])
        low, top = sorted([one[1], other[1]])
        inside = [high for row in like.rows()[low:top + 1] for high in row[left:right + 1]]
        by = chance.randint(-1000 - min(inside), 1000 - max(inside))
        self.assertEqual(land.lift(one, other, by=by), like.lift(one, other, by))

    def to_both_ends(self, land, like):
        while like.at > 0:
            self.assertEqual(land.undo(), like.undo())
            self.same(land, like)
        self.refused(NothingLeft, {}, land.undo)
        while like.at < len(like.states) - 1:
            self.assertEqual(land.redo(), like.redo())
        self.refused(NothingLeft, {}, land.redo)
        like.tries += 2
        self.same(land, like)

    def test_walks_on_small_plans(self):
        for plan in SMALL:
            for number in range(4):
                self.walk(plan, ("walk", number), 40)

    def test_walks_on_plans_of_each_side(self):
        for plan in ((2, 2, 2), (3, 3, 2), (2, 2, 4), (1, 3, 4), (1, 1, 8), (2, 1, 8)):
            self.walk(plan, "each", 12)

    def test_told_lists_are_made_for_the_asker(self):
        land = Land((1, 1, 2))
        for told in (land.put((1, 1), 5), land.edit([((1, 1), 6)]), land.lift((0, 0), (1, 1)), land.undo(),
                     land.redo()):
            self.assertIs(type(told), list)
            self.assertTrue(told)
            self.assertEqual({type(shape) for shape in told}, {tuple})
            told.clear()
        self.assertEqual(len(land.undo()), len(land.redo()))

    def test_put_example(self):
        land = Land((1, 1, 2))
        self.assertEqual(land.put(high=7, at=(1, 0)), [(0, 0, 2, 2, 2, 0), (0, 0, 2, 0, 1, 1)])
        self.assertEqual((land.height((1, 0)), land.edition, land.tries, land.since((1, 0))), (7, 1, 1, 1))
        self.assertEqual(land.put((1, 0), 7), [])
        self.assertEqual((land.edition, land.tries, land.since((1, 0))), (2, 2, 1))
        # As far below as it was above: neither the error nor the place of a gap is another one.
        self.assertEqual(land.put((1, 0), -7), [])
        self.assertEqual((land.edition, land.since((1, 0))), (3, 3))

    def test_only_the_place_of_a_gap_changes(self):
        land = Land((1, 1, 2))
        land.put((1, 0), 4)
        root = (0, 0, 2, 2, 2, 0)
        self.assertEqual(land.gap(root), ((4, 1), (1, 0)))
        told = land.edit([((1, 0), 0), ((2, 1), 4)])
        self.assertEqual(land.gap(root), ((4, 1), (2, 1)))
        self.assertIn(root, told)

    def test_edit(self):
        land = Land((1, 1, 2))
        self.assertEqual(land.edit([]), [])
        self.assertEqual((land.edition, land.tries), (1, 1))
        changes = [((1, 1), 5), ((0, 0), 3), ((1, 1), 8), ((0, 0), 0)]
        kept = list(changes)
        land.edit(changes=changes)
        self.assertEqual(changes, kept)
        self.assertEqual([land.height(at) for at in ((1, 1), (0, 0))], [8, 0])
        self.assertEqual([land.since(at) for at in ((1, 1), (0, 0))], [2, 0])
        changes.clear()
        land.undo()
        self.assertEqual((land.height((1, 1)), land.since((1, 1))), (0, 3))
        changes.append(((2, 2), 9))
        land.redo()
        self.assertEqual([land.height(at) for at in ((1, 1), (0, 0), (2, 2))], [8, 0, 0])

    def test_lift_each_two_opposite_corners(self):
        plan = (1, 1, 2)
        for one in places(plan):
            for other in places(plan):
                for by in (1, 0, -4, 1000, -1000):
                    land, like = Land(plan), Like(plan, Land(plan).rows())
                    self.assertEqual(land.lift(one, other, by=by), like.lift(one, other, by))
                    self.same(land, like)
        land, like = Land(plan), Like(plan, Land(plan).rows())
        self.assertEqual(land.lift(other=(0, 1), one=(2, 0)), like.lift((2, 0), (0, 1), 1))
        self.same(land, like)

    def test_lift_on_greater_plans(self):
        for plan in ((2, 1, 4), (1, 2, 8)):
            right, top = plan[0] * plan[2], plan[1] * plan[2]
            for one, other in (((0, 0), (right, top)), ((right, 0), (0, top)), ((1, top), (right - 1, 2))):
                rows = random_rows(plan, seeded("lift", plan), 900)
                land, like = Land(plan, rows), Like(plan, rows)
                for by in (100, -200, 3):
                    self.assertEqual(land.lift(one, other, by=by), like.lift(one, other, by))
                    self.same(land, like)


class RefusedDeedsTest(LandTest):
    def check(self, land, like, kind, values, name, *things, **named):
        """A refused deed leaves all as it was, but for tries, and nothing is lost of what could be done again."""
        like.tries += 1
        self.refused(kind, values, getattr(land, name), *things, **named)
        self.same(land, like)

    def ready(self, plan, word):
        """A land with a deed to take back and one to do again."""
        land, like = self.start(plan, word)
        for each in (land, like):
            each.put((1, 1), 3)
            each.put((1, 0), 4)
            each.undo()
        return land, like

    def done(self, land, like):
        self.assertEqual(land.redo(), like.redo())
        self.assertEqual(land.undo(), like.undo())
        self.assertEqual(land.undo(), like.undo())
        self.same(land, like)
        self.check(land, like, NothingLeft, {}, "undo")

    def test_put(self):
        for plan in SMALL:
            land, like = self.ready(plan, "wrong put")
            for at in beyond(plan):
                for high in (0, 1001, None, True, VAST):
                    self.check(land, like, NoPlace, {"at": at}, "put", at, high)
            for at in ((0, 0), (1, 1), (plan[0] * plan[2], plan[1] * plan[2])):
                for high in WRONG_HEIGHTS:
                    self.check(land, like, BadHeight, {"at": at, "high": high}, "put", at, high)
            self.done(land, like)

    def test_edit(self):
        for plan in SMALL:
            land, like = self.ready(plan, "wrong edit")
            good = [((0, 0), 11), ((1, 1), 12)]
            for at in beyond(plan)[::5]:
                self.check(land, like, NoPlace, {"at": at}, "edit", good + [(at, 5)])
                self.check(land, like, NoPlace, {"at": at}, "edit", good + [(at, 1001), ((0, 0), 1001)])
                self.check(land, like, NoPlace, {"at": at}, "edit", [(at, True)] + good)
            for high in WRONG_HEIGHTS:
                values = {"at": (1, 0), "high": high}
                self.check(land, like, BadHeight, values, "edit", good + [((1, 0), high), ((-1, 0), 5)])
                self.check(land, like, BadHeight, values, "edit", [((1, 0), high), ((1, 0), 7), ((0, 0), 2000)])
            self.done(land, like)

    def test_lift_places(self):
        for plan in SMALL:
            land, like = self.ready(plan, "wrong lift")
            for at in beyond(plan)[::3]:
                self.check(land, like, NoPlace, {"at": at}, "lift", at, (1, 1), by=5000)
                self.check(land, like, NoPlace, {"at": at}, "lift", (1, 1), at)
                self.check(land, like, NoPlace, {"at": at}, "lift", at, (-7, -7))
                self.check(land, like, NoPlace, {"at": (-7, -7)}, "lift", (-7, -7), at)
            self.done(land, like)

    def test_lift_heights(self):
        plan = (1, 1, 2)
        rows = [[0, 5, 1], [9, 0, 0], [0, 1, 2]]
        land, like = Land(plan, rows), Like(plan, rows)
        for one, other, by, at, high in (
                ((0, 0), (2, 2), 1001, (0, 0), 1001), ((2, 2), (0, 0), 1000, (0, 1), 1009),
                ((2, 0), (1, 2), 1000, (1, 0), 1005), ((1, 2), (2, 1), 999, (2, 2), 1001),
                ((0, 2), (2, 0), -1001, (0, 0), -1001), ((0, 1), (0, 1), -1010, (0, 1), -1001),
                ((1, 1), (2, 2), GREAT, (1, 1), GREAT), ((0, 0), (2, 1), -VAST, (0, 0), -VAST),
                ((2, 0), (2, 2), 1000, (2, 0), 1001), ((0, 1), (2, 1), 992, (0, 1), 1001)):
            self.check(land, like, BadHeight, {"at": at, "high": high}, "lift", one, other, by=by)
        self.refused(NothingLeft, {}, land.undo)
        land.lift((0, 0), (2, 2), by=991)
        self.assertEqual(land.rows(), [[991, 996, 992], [1000, 991, 991], [991, 992, 993]])


class UndoTest(LandTest):
    def test_nothing_left_at_the_beginning(self):
        land = Land((1, 1, 2))
        self.refused(NothingLeft, {}, land.undo)
        self.refused(NothingLeft, {}, land.redo)
        self.assertEqual((land.edition, land.tries), (0, 2))
        self.assertTrue(issubclass(NothingLeft, IndexError))

    def test_a_deed_lets_go_what_could_be_done_again(self):
        for name, things in (("put", ((0, 0), 0)), ("edit", ([],)), ("lift", ((0, 0), (2, 2)))):
            land = Land((1, 1, 2))
            land.put((1, 1), 4)
            land.undo()
            getattr(land, name)(*things)
            self.refused(NothingLeft, {}, land.redo)
            land.undo()
            self.assertEqual(land.rows(), Land((1, 1, 2)).rows())
            land.redo()
            self.refused(NothingLeft, {}, land.redo)
            self.assertEqual((land.edition, land.tries), (5, 7))

    def test_a_deed_that_changed_no_height_is_a_deed(self):
        land = Land((1, 1, 2))
        land.put((1, 1), 4)
        self.assertEqual(land.edit([]), [])
        self.assertEqual(land.lift((0, 0), (2, 2), by=0), [])
        self.assertEqual(land.put((1, 1), 4), [])
        for _ in range(3):
            self.assertEqual(land.undo(), [])
            self.assertEqual(land.height((1, 1)), 4)
        self.assertEqual(len(land.undo()), 2)
        self.assertEqual((land.height((1, 1)), land.edition, land.since((1, 1))), (0, 8, 8))
        self.refused(NothingLeft, {}, land.undo)
        for _ in range(4):
            land.redo()
        self.refused(NothingLeft, {}, land.redo)
        self.assertEqual((land.height((1, 1)), land.edition, land.since((1, 1))), (4, 12, 9))

    def test_nothing_else_changes_tries_and_edition(self):
        land = Land((1, 1, 2))
        land.put((1, 1), 4)
        shape = (0, 0, 2, 2, 2, 0)
        for _ in range(2):
            land.height((1, 1)), land.since((1, 1)), land.rows(), land.gap(shape), land.bound(shape)
            land.knows(shape), land == Land((1, 1, 2)), land.plan
            for function, thing in ((land.height, (9, 9)), (land.since, (9, 9)), (land.gap, (0,) * 6)):
                self.assertRaises(LookError, function, thing)
        self.assertEqual((land.edition, land.tries), (1, 1))


class GapTest(LandTest):
    def check(self, land):
        gaps = own_gaps(land.plan, land.rows())
        for shape in gaps:
            error, at = gaps[shape]
            told = land.gap(shape)
            self.assertEqual(told, (pair(error), at))
            self.assertEqual({type(told), type(told[0]), type(told[1])}, {tuple})
        for shape in gaps:
            self.assertEqual(land.bound(shape), pair(max(gaps[each][0] for each in own_kin(shape))))

    def test_small_lands(self):
        for plan in EACH_SIDE:
            for high in (1, 3, 1000):
                chance = seeded("gap", plan, high)
                land = Land(plan, random_rows(plan, chance, high))
                self.check(land)
            self.check(Land(plan))

    def test_behind_deeds_undo_and_redo(self):
        for plan in ((1, 1, 2), (2, 1, 4), (1, 1, 8)):
            land = Land(plan, random_rows(plan, seeded("behind", plan), 20))
            right, top = plan[0] * plan[2], plan[1] * plan[2]
            for deed in (lambda: land.put((1, 1), 899), lambda: land.lift((1, 0), (right, top - 1), by=7),
                         lambda: land.edit([((0, 0), -5), ((right, top), 31)]), land.undo, land.undo, land.redo):
                deed()
                self.check(land)

    def test_all_plans(self):
        for plan in PLANS:
            land = Land(plan, random_rows(plan, seeded("all", plan)))
            gaps = own_gaps(plan, land.rows()) if plan in ((3, 3, 4), (2, 2, 8)) else {}
            for shape in gaps:
                self.assertEqual(land.gap(shape), (pair(gaps[shape][0]), gaps[shape][1]))
            for shape in own_shapes(plan):
                self.assertIs(land.knows(shape), True)

    def test_examples(self):
        land = Land((1, 1, 2), [[0, 3, 0], [0, 0, 0], [0, 0, 8]])
        root = (0, 0, 2, 2, 2, 0)
        self.assertEqual(land.gap(root), ((4, 1), (1, 1)))
        self.assertEqual(land.gap(shape=(0, 0, 2, 0, 1, 1)), ((3, 1), (1, 0)))
        self.assertEqual(land.gap((0, 0, 1, 1, 1, 0)), ((0, 1), (0, 0)))
        self.assertEqual(land.bound(shape=(2, 0, 2, 2, 1, 1)), ((4, 1)))
        land = Land((1, 1, 4), [[1, 0, 0, 0, 0]] + [[0] * 5] * 4)
        self.assertEqual(land.gap((0, 0, 4, 4, 4, 0)), ((3, 4), (1, 0)))

    def test_bound_may_be_greater_than_the_error(self):
        land = Land((1, 1, 4))
        land.edit([((2, 2), 5), ((2, 1), -5)])
        root, half = (0, 0, 4, 4, 4, 0), (0, 0, 4, 0, 2, 2)
        self.assertEqual((land.gap(root), land.gap(half)), (((5, 1), (2, 1)), ((15, 2), (2, 1))))
        self.assertEqual((land.bound(root), land.bound(half)), ((15, 2), (15, 2)))
        self.assertEqual(land.bound((4, 4, 0, 0, 0, 4)), (5, 1))

    def test_wrong_triangles(self):
        for plan in EACH_SIDE:
            land = Land(plan)
            known = set(own_shapes(plan))
            for shape in own_shapes(plan)[::5]:
                ax, ay, bx, by, cx, cy = shape
                moved = [tuple(number + by * (at == k) for at, number in enumerate(shape))
                         for k in range(6) for by in (-1, 1, GREAT, -VAST)]
                turned = [(bx, by, ax, ay, cx, cy), (bx, by, cx, cy, ax, ay), (cx, cy, ax, ay, bx, by),
                          (ax, ay, cx, cy, bx, by), (ax, ay, ax, ay, ax, ay)]
                for wrong in moved + turned:
                    self.assertNotIn(wrong, known)
                    self.assertIs(land.knows(wrong), False)
                    self.refused(NoTriangle, {"shape": wrong}, land.gap, wrong)
                    self.refused(NoTriangle, {"shape": wrong}, land.bound, wrong)
            self.assertIs(land.knows(shape=(0,) * 6), False)
        self.assertTrue(issubclass(NoTriangle, LookError))

    def test_triangles_of_other_plans(self):
        lesser, greater = Land((1, 1, 2)), Land((2, 2, 2))
        for shape in own_shapes((2, 2, 2)):
            self.assertIs(greater.knows(shape), True)
            self.assertIs(lesser.knows(shape), shape in own_shapes((1, 1, 2)))


if __name__ == "__main__":
    unittest.main()
