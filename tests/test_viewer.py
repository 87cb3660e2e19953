import itertools
import unittest

from braemantle.errors import BadSize, Cracked, LandError, LookError, NoCut, NoPlace, NoRoom, NotCome, NotHeld
from braemantle.lattice import corners
from braemantle.mesh import Mesh
from braemantle.viewer import Viewer
from plans import (
    GREAT, PLANS, VAST, Case, beyond, closed_sets, every_cut, kin_of_cuts, own_above, own_crack, own_order, own_within,
    places, plain, seeded, signature, some_cuts)

EACH_SIDE = [(1, 1, 2), (2, 1, 2), (3, 2, 2), (1, 1, 4), (1, 2, 4), (1, 1, 8)]


def flat(plan, high=0):
    return {at: high for at in corners(plan)}


class Like:
    """A plain model of a far end, points 42 to 44."""

    def __init__(self, plan, heights, room):
        self.plan, self.room = plan, room
        self.heights, self.dates = dict(heights), {at: 0 for at in heights}
        self.wanted = []

    def come(self):
        return [at for at in self.heights if at in every_cut(self.plan)]

    def take(self, record):
        at, high, since = record
        if at in self.dates and since <= self.dates[at]:
            return False
        self.heights[at], self.dates[at] = high, since
        if self.room is not None and len(self.come()) > self.room:
            gone = own_order(self.plan, set(self.come()) - set(self.wanted))[-1]
            del self.heights[gone], self.dates[gone]
        return at in self.heights


class ViewerTest(Case):
    def same(self, viewer, like):
        plan = like.plan
        for at in places(plan):
            if at in like.heights:
                self.assertEqual((viewer.height(at), viewer.since(at)), (like.heights[at], like.dates[at]))
            else:
                self.refused(NotCome, {"at": at}, viewer.height, at)
                self.refused(NotCome, {"at": at}, viewer.since, at)
        self.assertEqual(viewer.wanted(), sorted(like.wanted))
        self.assertEqual(viewer.missing(), own_order(plan, set(like.wanted) - set(like.heights)))
        shown = own_within(plan, set(like.wanted) & set(like.heights))
        self.assertEqual(viewer.shown(), Mesh(plan, shown))
        self.check_held(viewer, like, shown)

    def check_held(self, viewer, like, shown):
        parents = kin_of_cuts(like.plan)[0]
        for at in every_cut(like.plan):
            if at not in like.wanted or at in shown:
                self.refused(NotHeld, {"at": at}, viewer.held, at)
                continue
            chain = viewer.held(at)
            self.assertIs(type(chain), list)
            self.assertEqual(chain[0], at)
            for one, other in zip(chain, chain[1:]):
                self.assertIn(other, parents[one])
                self.assertIn(one, like.heights)
            self.assertNotIn(chain[-1], like.heights)


class MakingTest(ViewerTest):
    def test_corners_as_of_edition_0(self):
        for plan in PLANS:
            heights = {at: 7 * number - 40 for number, at in enumerate(corners(plan))}
            for viewer in (Viewer(plan, heights), Viewer(plan, heights, room=None), Viewer(plan, heights, room=3)):
                self.assertEqual(viewer.plan, plan)
                self.assertEqual({at: viewer.height(at) for at in heights}, heights)
                self.assertEqual({viewer.since(at) for at in heights}, {0})
                self.assertEqual((viewer.wanted(), viewer.missing(), viewer.shown()), ([], [], Mesh(plan)))

    def test_rooms(self):
        for room in (-1, -2, -GREAT, -VAST):
            self.refused(BadSize, {"size": room}, Viewer, (1, 1, 4), flat((1, 1, 4)), room=room)
        for room in (0, 1, GREAT, VAST, None):
            self.assertEqual(Viewer((1, 1, 4), flat((1, 1, 4)), room=room).wanted(), [])
        self.assertTrue(issubclass(BadSize, LandError))

    def test_handed_dict_changed_behind_the_call(self):
        heights = flat((1, 1, 4), 5)
        viewer = Viewer((1, 1, 4), heights)
        heights[(0, 0)] = 99
        del heights[(4, 4)]
        heights[(2, 2)] = 1
        self.assertEqual((viewer.height((0, 0)), viewer.height((4, 4))), (5, 5))
        self.refused(NotCome, {"at": (2, 2)}, viewer.height, (2, 2))

    def test_two_of_one_dict(self):
        heights = flat((1, 1, 4), 5)
        one, other = Viewer((1, 1, 4), heights, room=9), Viewer((1, 1, 4), heights)
        one.take(((0, 0), 6, 1))
        one.take(((2, 2), 8, 1))
        one.want([(2, 2)])
        self.assertEqual((other.height((0, 0)), other.since((0, 0)), other.wanted()), (5, 0, []))
        self.refused(NotCome, {"at": (2, 2)}, other.height, (2, 2))
        other.want([(2, 2), (2, 0)])
        self.assertEqual((one.height((0, 0)), one.wanted(), one.missing()), (6, [(2, 2)], []))
        self.assertEqual(other.missing(), [(2, 2), (2, 0)])
        self.assertEqual(heights, flat((1, 1, 4), 5))

    def test_interface(self):
        self.assertEqual(signature(Viewer), plain("plan", "heights") + [("room", True, None)])
        for method, names in [(Viewer.take, ["record"]), (Viewer.want, ["cuts"]), (Viewer.wanted, []),
                              (Viewer.missing, []), (Viewer.shown, []), (Viewer.held, ["at"]), (Viewer.height, ["at"]),
                              (Viewer.since, ["at"])]:
            self.assertEqual(signature(method), plain("self", *names))

    def test_by_name(self):
        viewer = Viewer(room=2, heights=flat((1, 1, 4), 3), plan=(1, 1, 4))
        self.assertIs(viewer.take(record=((2, 0), 4, 1)), True)
        self.assertIsNone(viewer.want(cuts=[(2, 0), (2, 2)]))
        self.assertEqual(viewer.held(at=(2, 0)), [(2, 0), (2, 2)])
        self.assertEqual((viewer.height(at=(2, 0)), viewer.since(at=(2, 0))), (4, 1))


class TakeTest(ViewerTest):
    def test_against_a_model(self):
        told = set()
        for plan in EACH_SIDE:
            every, chance = every_cut(plan), seeded("take", plan)
            for room in (0, 1, 2, len(every) // 2, len(every), None):
                heights = {at: chance.randint(-9, 9) for at in corners(plan)}
                viewer, like = Viewer(plan, heights, room=room), Like(plan, heights, room)
                sets = [cuts for cuts in closed_sets(plan, 6, chance) if room is None or len(cuts) <= room]
                for number in range(40):
                    if number % 6 == 1:
                        like.wanted = chance.choice(sets)
                        viewer.want(like.wanted)
                    near = every if chance.random() < 0.7 or not like.wanted else like.wanted
                    at = chance.choice(near) if chance.random() < 0.8 else chance.choice(corners(plan))
                    record = (at, chance.randint(-1000, 1000), chance.randint(0, 5))
                    answer = viewer.take(record)
                    self.assertIs(answer, like.take(record))
                    told.add(answer)
                    if plan[2] < 8 or number % 8 == 7:
                        self.same(viewer, like)
        self.assertEqual(told, {True, False})

    def test_elder_and_newer_ones(self):
        viewer = Viewer((1, 1, 4), flat((1, 1, 4)))
        for record, answer, kept in [
                (((0, 0), 5, 0), False, (0, 0)), (((0, 0), 5, 1), True, (5, 1)), (((0, 0), 6, 1), False, (5, 1)),
                (((0, 0), 6, 0), False, (5, 1)), (((0, 0), 5, 2), True, (5, 2)), (((0, 0), -9, 70), True, (-9, 70)),
                (((2, 2), 5, 0), True, (5, 0)), (((2, 2), 6, 0), False, (5, 0)), (((2, 2), 6, 3), True, (6, 3)),
                (((2, 2), 7, 2), False, (6, 3)), (((2, 2), 7, 3), False, (6, 3)), (((2, 2), 6, 4), True, (6, 4)),
                (((1, 0), 7, 5), True, (7, 5))]:
            self.assertIs(viewer.take(record), answer, record)
            at = record[0]
            self.assertEqual((viewer.height(at), viewer.since(at)), kept)

    def test_which_one_goes(self):
        viewer = Viewer((1, 1, 4), flat((1, 1, 4)), room=2)
        # The sending order here is (2, 2), (0, 2), (2, 0), (1, 1), (3, 3).
        self.assertIs(viewer.take(((2, 0), 1, 1)), True)
        self.assertIs(viewer.take(((1, 1), 2, 1)), True)
        self.assertIs(viewer.take(((3, 3), 3, 9)), False)
        self.refused(NotCome, {"at": (3, 3)}, viewer.height, (3, 3))
        self.assertIs(viewer.take(((1, 1), 4, 2)), True)
        self.assertIs(viewer.take(((0, 2), 5, 0)), True)
        self.refused(NotCome, {"at": (1, 1)}, viewer.height, (1, 1))
        viewer.want([(2, 2)])
        self.assertIs(viewer.take(((1, 1), 6, 3)), False)
        self.assertIs(viewer.take(((2, 2), 7, 1)), True)
        self.refused(NotCome, {"at": (2, 0)}, viewer.since, (2, 0))
        self.assertEqual((viewer.height((0, 2)), viewer.height((2, 2))), (5, 7))
        viewer.want([(2, 2), (2, 0)])
        self.assertIs(viewer.take(((2, 0), 8, 1)), True)
        self.refused(NotCome, {"at": (0, 2)}, viewer.height, (0, 2))
        self.assertIs(viewer.take(((0, 2), 8, 99)), False)
        viewer.want([])
        self.assertEqual((viewer.height((2, 0)), viewer.height((2, 2))), (8, 7))
        self.assertIs(viewer.take(((0, 2), 8, 1)), True)
        self.refused(NotCome, {"at": (2, 0)}, viewer.height, (2, 0))

    def test_a_wanted_one_may_be_the_last_in_the_order(self):
        viewer = Viewer((1, 1, 4), flat((1, 1, 4)), room=4)
        viewer.want([(2, 2), (0, 2), (2, 0), (1, 1)])
        for at in ((1, 1), (4, 2), (2, 4), (0, 2)):
            self.assertIs(viewer.take((at, 1, 1)), True)
        self.assertIs(viewer.take(((2, 0), 1, 1)), True)
        self.refused(NotCome, {"at": (4, 2)}, viewer.height, (4, 2))
        self.assertIs(viewer.take(((4, 2), 1, 1)), False)
        self.assertIs(viewer.take(((2, 2), 1, 1)), True)
        self.refused(NotCome, {"at": (2, 4)}, viewer.height, (2, 4))
        self.assertEqual(viewer.missing(), [])

    def test_no_room_at_all(self):
        viewer = Viewer((1, 1, 4), flat((1, 1, 4)), room=0)
        for at in every_cut((1, 1, 4)):
            self.assertIs(viewer.take((at, 1, 1)), False)
            self.refused(NotCome, {"at": at}, viewer.height, at)
        self.assertIs(viewer.take(((4, 4), 1, 1)), True)
        self.assertEqual(viewer.height((4, 4)), 1)

    def test_what_is_wanted_no_more_stays(self):
        viewer = Viewer((1, 1, 4), flat((1, 1, 4)), room=3)
        viewer.want([(2, 2), (2, 0)])
        viewer.take(((2, 0), 1, 1))
        viewer.take(((2, 2), 2, 1))
        viewer.want([])
        self.assertEqual((viewer.height((2, 0)), viewer.height((2, 2)), viewer.shown()), (1, 2, Mesh((1, 1, 4))))
        viewer.want([(2, 2)])
        self.assertEqual((viewer.shown().cuts(), viewer.missing()), ([(2, 2)], []))

    def test_no_place(self):
        for plan in EACH_SIDE:
            viewer = Viewer(plan, flat(plan), room=0)
            for at in beyond(plan):
                self.refused(NoPlace, {"at": at}, viewer.take, (at, 5, 1))
            self.same(viewer, Like(plan, flat(plan), 0))

    def test_great_numbers(self):
        viewer = Viewer((1, 1, 4), flat((1, 1, 4)))
        self.assertIs(viewer.take(((2, 2), 1, VAST)), True)
        self.assertIs(viewer.take(((2, 2), 2, VAST - 1)), False)
        self.assertTrue(viewer.since((2, 2)) == VAST)


class WantTest(ViewerTest):
    def test_refused_like_mesh(self):
        for plan in EACH_SIDE:
            for room in (0, 3, None):
                viewer, like = Viewer(plan, flat(plan), room=room), Like(plan, flat(plan), room)
                like.wanted = [] if room == 0 else [(plan[2] // 2, plan[2] // 2)]
                viewer.want(like.wanted)
                for cuts in some_cuts(plan, 4, seeded("want", plan)):
                    if own_crack(plan, cuts) is not None:
                        at, other = own_crack(plan, cuts)
                        self.refused(Cracked, {"at": at, "other": other}, viewer.want, cuts)
                for wrong in beyond(plan)[::7]:
                    self.refused(NoPlace, {"at": wrong}, viewer.want, every_cut(plan) + [wrong, (0, 0)])
                for wrong in corners(plan):
                    self.refused(NoCut, {"at": wrong}, viewer.want, every_cut(plan)[:1] + [wrong, (-1, 0)])
                self.same(viewer, like)

    def test_no_room(self):
        for plan in EACH_SIDE:
            every = every_cut(plan)
            for cuts in closed_sets(plan, 4, seeded("room", plan)):
                for room in {0, 1, len(cuts) - 1, len(cuts), len(every)} - {-1}:
                    viewer, like = Viewer(plan, flat(plan), room=room), Like(plan, flat(plan), room)
                    like.wanted = [] if room == 0 else [(plan[2] // 2, plan[2] // 2)]
                    viewer.want(like.wanted)
                    if len(cuts) > room:
                        self.refused(NoRoom, {"many": len(cuts)}, viewer.want, cuts + cuts[:2])
                    else:
                        # A cut that stands there twice takes no more room.
                        self.assertIsNone(viewer.want(cuts + cuts[:2]))
                        like.wanted = cuts
                    self.same(viewer, like)
        self.assertTrue(issubclass(NoRoom, LandError))

    def test_cracked_goes_ahead_of_no_room(self):
        viewer = Viewer((1, 1, 4), flat((1, 1, 4)), room=1)
        self.refused(Cracked, {"at": (0, 2), "other": (2, 2)}, viewer.want, [(2, 0), (0, 2)])
        self.refused(NoCut, {"at": (0, 4)}, viewer.want, [(2, 0), (0, 4), (9, 9)])
        self.refused(NoRoom, {"many": 2}, viewer.want, [(2, 0), (2, 2)])

    def test_lists_changed_behind_the_call(self):
        viewer = Viewer((1, 1, 4), flat((1, 1, 4)))
        cuts = [(2, 0), (2, 2), (0, 2)]
        viewer.want(cuts)
        self.assertEqual(cuts, [(2, 0), (2, 2), (0, 2)])
        cuts.clear()
        told = viewer.wanted()
        self.assertEqual(told, [(0, 2), (2, 0), (2, 2)])
        told.clear()
        viewer.missing().clear()
        viewer.held((2, 0)).append((2, 2))
        self.assertEqual(viewer.wanted(), [(0, 2), (2, 0), (2, 2)])
        self.assertEqual(viewer.missing(), [(2, 2), (0, 2), (2, 0)])
        self.assertEqual(viewer.held((2, 0)), [(2, 0)])


class ShownTest(ViewerTest):
    def test_any_order_of_records(self):
        for plan, cuts in [((1, 1, 4), [(2, 2), (0, 2), (2, 0), (1, 1)]),
                           ((2, 1, 2), [(1, 1), (3, 1), (2, 1), (0, 1)])]:
            for row in itertools.permutations(cuts):
                viewer, like = Viewer(plan, flat(plan)), Like(plan, flat(plan), None)
                like.wanted = list(cuts)
                viewer.want(cuts)
                for at in row:
                    self.assertIs(viewer.take((at, 3, 1)), True)
                    like.take((at, 3, 1))
                    self.same(viewer, like)
                self.assertEqual(viewer.shown(), Mesh(plan, cuts))

    def test_great_sets(self):
        for plan in [(2, 2, 4), (1, 1, 8), (2, 1, 8)]:
            chance = seeded("great", plan)
            for cuts in some_cuts(plan, 4, chance):
                wanted = own_above(plan, cuts[:len(cuts) // 3])
                viewer, like = Viewer(plan, flat(plan)), Like(plan, flat(plan), None)
                like.wanted = wanted
                viewer.want(wanted)
                for at in cuts:
                    viewer.take((at, 2, 1))
                    like.take((at, 2, 1))
                self.same(viewer, like)

    def test_what_is_not_wanted_is_not_shown(self):
        viewer = Viewer((1, 1, 4), flat((1, 1, 4)))
        for at in every_cut((1, 1, 4)):
            viewer.take((at, 1, 1))
        self.assertEqual(viewer.shown().cuts(), [])
        viewer.want([(2, 2), (4, 2)])
        self.assertEqual(viewer.shown().cuts(), [(2, 2), (4, 2)])

    def test_held_refusals(self):
        for plan in EACH_SIDE:
            viewer = Viewer(plan, flat(plan))
            viewer.want(every_cut(plan))
            for at in beyond(plan):
                self.refused(NoPlace, {"at": at}, viewer.held, at)
            for at in corners(plan):
                self.refused(NoCut, {"at": at}, viewer.held, at)
        self.assertTrue(issubclass(NotHeld, LookError))

    def test_long_chains(self):
        viewer = Viewer((1, 1, 8), flat((1, 1, 8)))
        viewer.want(own_above((1, 1, 8), [(1, 0)]))
        for at in viewer.wanted():
            if at != (4, 4):
                viewer.take((at, 1, 1))
        chain = viewer.held((1, 0))
        self.assertEqual((len(chain), chain[0], chain[-1]), (6, (1, 0), (4, 4)))
        self.assertEqual(viewer.shown(), Mesh((1, 1, 8)))


class HeightTest(ViewerTest):
    def test_no_place_and_not_come(self):
        for plan in EACH_SIDE:
            viewer = Viewer(plan, flat(plan))
            viewer.want(every_cut(plan))
            for at in beyond(plan):
                self.refused(NoPlace, {"at": at}, viewer.height, at)
                self.refused(NoPlace, {"at": at}, viewer.since, at)
            self.same(viewer, self.wanting(plan))
        self.assertTrue(issubclass(NotCome, LookError))

    def wanting(self, plan):
        like = Like(plan, flat(plan), None)
        like.wanted = every_cut(plan)
        return like


if __name__ == "__main__":
    unittest.main()
