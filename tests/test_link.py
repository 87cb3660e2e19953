import unittest

from braemantle.errors import LandError, NameFault, NoPacket, NoPlace, NotCome, OtherPlan
from braemantle.land import Land
from braemantle.lattice import corners
from braemantle.link import Link
from braemantle.mesh import Mesh
from braemantle.viewer import Viewer
from plans import (
    GREAT, PLANS, VAST, Case, beyond, closed_sets, every_cut, land_of, own_order, places, plain, seeded, signature)

EACH_SIDE = [(1, 1, 2), (2, 1, 2), (1, 1, 4), (1, 2, 4), (1, 1, 8)]


def viewer_of(land, room=None):
    """A viewer with the corner heights that a land has now."""
    return Viewer(land.plan, {at: land.height(at) for at in corners(land.plan)}, room=room)


def kept(viewer):
    """All that a viewer keeps: heights and editions by places."""
    told = {}
    for at in places(viewer.plan):
        try:
            told[at] = (viewer.height(at), viewer.since(at))
        except NotCome:
            pass
    return told


def own_stale(land, viewer):
    """Point 48."""
    have = kept(viewer)
    row = corners(land.plan) + own_order(land.plan, viewer.wanted())
    return [at for at in row if at not in have or have[at][1] < land.since(at)]


def random_deed(land, chance):
    """One deed, undo or redo; nothing where that is not to be had."""
    spots = places(land.plan)
    word = chance.choice(["put", "edit", "lift", "undo", "redo", "put"])
    if word == "put":
        land.put(chance.choice(spots), chance.randint(-500, 500))
    elif word == "edit":
        land.edit([(chance.choice(spots), chance.randint(-500, 500)) for _ in range(3)])
    elif word == "lift":
        land.lift(chance.choice(spots), chance.choice(spots), by=chance.choice([-1, 1, 2]))
    else:
        try:
            land.undo() if word == "undo" else land.redo()
        except IndexError:
            pass


class PacketsTest(Case):
    def test_numbers_go_on(self):
        land = land_of((1, 1, 4), "numbers")
        link = Link(land)
        self.assertIs(link.land, land)
        self.assertEqual(link.air(), [])
        self.assertEqual([link.send((2, 2)), link.send((0, 0)), link.double(1), link.send((2, 2))], [1, 2, 3, 4])
        self.assertEqual(link.air(), [1, 2, 3, 4])
        self.assertIsNone(link.lose(4))
        self.assertIsNone(link.lose(2))
        self.assertEqual(link.air(), [1, 3])
        self.assertEqual((link.send((1, 1)), link.double(3)), (5, 6))
        viewer = viewer_of(land)
        self.assertIs(link.bring(3, viewer), True)
        self.assertEqual(link.air(), [1, 5, 6])
        self.assertIs(link.bring(1, viewer), False)
        self.assertIs(link.bring(6, viewer), False)
        self.assertEqual((link.air(), link.send((3, 3))), ([5], 7))

    def test_refused_calls_take_no_number(self):
        link = Link(Land((1, 1, 4)))
        for wrong in beyond((1, 1, 4)):
            self.refused(NoPlace, {"at": wrong}, link.send, wrong)
        self.refused(NoPacket, {"number": 1}, link.double, 1)
        self.assertEqual((link.air(), link.send((2, 2))), ([], 1))

    def test_no_packet(self):
        land = Land((1, 1, 4))
        link, viewer, other = Link(land), viewer_of(land), viewer_of(Land((1, 2, 4)))
        link.send((2, 2))
        link.send((0, 0))
        link.lose(1)
        for number in (1, 0, -1, 3, GREAT, -VAST, VAST):
            self.refused(NoPacket, {"number": number}, link.lose, number)
            self.refused(NoPacket, {"number": number}, link.double, number)
            self.refused(NoPacket, {"number": number}, link.bring, number, viewer)
            self.refused(NoPacket, {"number": number}, link.bring, number, other)
        self.assertEqual(link.air(), [2])
        link.bring(2, viewer)
        self.refused(NoPacket, {"number": 2}, link.bring, 2, viewer)
        self.assertTrue(issubclass(NoPacket, NameFault) and issubclass(NoPacket, KeyError))

    def test_other_plan_leaves_the_packet_in_the_air(self):
        land = land_of((1, 2, 4), "plan")
        link = Link(land)
        link.send((2, 2))
        for plan in [(2, 1, 4), (1, 1, 4), (1, 2, 2), (1, 2, 8)]:
            viewer = viewer_of(Land(plan))
            self.refused(OtherPlan, {}, link.bring, 1, viewer)
            self.refused(OtherPlan, {}, link.stale, viewer)
            self.refused(OtherPlan, {}, link.again, viewer)
            self.assertEqual((link.air(), len(kept(viewer))), ([1], len(corners(plan))))
        viewer = viewer_of(land)
        self.assertIs(link.bring(1, viewer), True)
        self.assertEqual(viewer.height((2, 2)), land.height((2, 2)))
        self.assertTrue(issubclass(OtherPlan, LandError))

    def test_record_of_the_moment_of_sending(self):
        land = Land((1, 1, 4))
        link = Link(land)
        land.put((2, 2), 5)
        numbers = [link.send((2, 2))]
        land.put((2, 2), 6)
        numbers += [link.send((2, 2)), link.double(numbers[0])]
        land.undo()
        numbers += [link.send((2, 2)), link.double(numbers[1])]
        land.redo()
        numbers += [link.send((2, 2)), link.double(numbers[2])]
        for number, asked in zip(numbers, [(5, 1), (6, 2), (5, 1), (5, 3), (6, 2), (6, 4), (5, 1)]):
            viewer = viewer_of(land)
            self.assertIs(link.bring(number, viewer), True)
            self.assertEqual(kept(viewer)[(2, 2)], asked)

    def test_all_places_of_all_plans(self):
        for plan in PLANS:
            land = land_of(plan, "all")
            link, viewer = Link(land), viewer_of(land)
            for number, at in enumerate(places(plan), 1):
                self.assertEqual(link.send(at), number)
            for number, at in enumerate(places(plan), 1):
                self.assertIs(link.bring(number, viewer), at in every_cut(plan))
            self.assertEqual(kept(viewer), {at: (land.height(at), land.since(at)) for at in places(plan)})
            self.assertEqual(link.air(), [])

    def test_brings_what_take_tells(self):
        land = Land((1, 1, 4))
        link, viewer = Link(land), viewer_of(land, room=1)
        self.assertIs(link.bring(link.send((0, 0)), viewer), False)
        self.assertIs(link.bring(link.send((2, 0)), viewer), True)
        self.assertIs(link.bring(link.send((4, 2)), viewer), False)
        self.assertIs(link.bring(link.send((2, 2)), viewer), True)
        self.assertEqual(link.air(), [])
        self.assertEqual(sorted(kept(viewer)), [(0, 0), (0, 4), (2, 2), (4, 0), (4, 4)])

    def test_two_links_have_nothing_in_common(self):
        land = Land((1, 1, 4))
        one, other = Link(land), Link(land)
        self.assertEqual([one.send((2, 2)), one.send((0, 0)), other.send((1, 1))], [1, 2, 1])
        self.assertEqual((one.air(), other.air()), ([1, 2], [1]))
        self.refused(NoPacket, {"number": 2}, other.lose, 2)
        one.lose(1)
        self.assertEqual((one.air(), other.air()), ([2], [1]))

    def test_told_lists_are_made_for_their_asker(self):
        land = Land((1, 1, 4))
        link, viewer = Link(land), viewer_of(land)
        viewer.want([(2, 2)])
        told = [link.again(viewer), link.air(), link.stale(viewer)]
        self.assertEqual(told, [[1], [1], [(2, 2)]])
        for each in told:
            each.clear()
        self.assertEqual((link.air(), link.stale(viewer), viewer.wanted()), ([1], [(2, 2)], [(2, 2)]))

    def test_land_stays_as_it_was(self):
        land = land_of((1, 1, 4), "stays")
        land.put((2, 2), 5)
        rows = land.rows()
        link, viewer = Link(land), viewer_of(land)
        viewer.want([(2, 2)])
        for number in link.again(viewer):
            link.bring(link.double(number), viewer)
        self.assertEqual((land.rows(), land.edition, land.tries), (rows, 1, 1))

    def test_interface(self):
        self.assertEqual(signature(Link), plain("land"))
        for method, names in [(Link.send, ["at"]), (Link.double, ["number"]), (Link.lose, ["number"]), (Link.air, []),
                              (Link.bring, ["number", "viewer"]), (Link.stale, ["viewer"]), (Link.again, ["viewer"])]:
            self.assertEqual(signature(method), plain("self", *names))

    def test_by_name(self):
        link = Link(land=land_of((1, 1, 4), "names"))
        viewer = viewer_of(link.land)
        viewer.want([(2, 2)])
        self.assertEqual((link.send(at=(2, 2)), link.double(number=1), link.again(viewer=viewer)), (1, 2, [3]))
        link.lose(number=3)
        self.assertIs(link.bring(viewer=viewer, number=2), True)
        self.assertEqual((link.stale(viewer=viewer), link.air()), ([], [1]))


class StaleTest(Case):
    def test_corners_first_then_wanted_cuts(self):
        land = Land((2, 1, 4))
        viewer = viewer_of(land)
        link = Link(land)
        self.assertEqual(link.stale(viewer), [])
        viewer.want([(2, 2), (6, 2), (4, 2), (2, 0)])
        self.assertEqual(link.stale(viewer), [(2, 2), (6, 2), (2, 0), (4, 2)])
        land.edit([((8, 4), 3), ((0, 4), 3), ((4, 2), 3), ((0, 2), 3), ((2, 2), 4)])
        self.assertEqual(link.stale(viewer), [(0, 4), (8, 4), (2, 2), (6, 2), (2, 0), (4, 2)])
        numbers = link.again(viewer)
        self.assertEqual(numbers, [1, 2, 3, 4, 5, 6])
        for number in numbers[::2]:
            link.bring(number, viewer)
        self.assertEqual(link.stale(viewer), [(8, 4), (6, 2), (4, 2)])
        land.put((2, 2), 9)
        self.assertEqual(link.stale(viewer), [(8, 4), (2, 2), (6, 2), (4, 2)])
        land.undo()
        self.assertEqual(link.stale(viewer), [(8, 4), (2, 2), (6, 2), (4, 2)])
        land.put((2, 0), 0)
        self.assertEqual(link.stale(viewer), [(8, 4), (2, 2), (6, 2), (4, 2)])
        for number in numbers[1::2]:
            link.bring(number, viewer)
        self.assertEqual(link.stale(viewer), [(2, 2)])
        viewer.want([])
        self.assertEqual(link.stale(viewer), [])

    def test_wherever_it_has_it_from(self):
        land = Land((1, 1, 4))
        land.put((2, 2), 5)
        one, other, viewer = Link(land), Link(land), viewer_of(land)
        viewer.want([(2, 2)])
        other.bring(other.send((2, 2)), viewer)
        self.assertEqual(one.stale(viewer), [])
        land.put((2, 2), 6)
        self.assertEqual((one.stale(viewer), other.stale(viewer)), ([(2, 2)], [(2, 2)]))
        viewer.take(((2, 2), 77, 2))
        self.assertEqual((one.again(viewer), other.stale(viewer)), ([], []))

    def test_what_went_for_want_of_room(self):
        land = Land((1, 1, 4))
        link, viewer = Link(land), viewer_of(land, room=1)
        link.bring(link.send((2, 0)), viewer)
        viewer.want([(2, 2)])
        link.bring(link.send((2, 2)), viewer)
        self.assertEqual(link.stale(viewer), [])
        viewer.want([])
        viewer.want([(2, 2)])
        self.assertEqual(link.stale(viewer), [])

    def test_two_viewers_and_two_links_by_turns(self):
        for plan in EACH_SIDE:
            chance = seeded("turns", plan)
            land = land_of(plan, "turns", 400)
            links = [Link(land), Link(land)]
            viewers = [viewer_of(land), viewer_of(land, room=len(every_cut(plan)) // 2 + 1)]
            sets = closed_sets(plan, 5, chance)
            for number in range(60):
                link, viewer = chance.choice(links), chance.choice(viewers)
                deed = chance.choice(["land", "want", "again", "double", "lose", "bring", "bring", "send"])
                air = link.air()
                if deed == "land":
                    random_deed(land, chance)
                elif deed == "want":
                    viewer.want(chance.choice([cuts for cuts in sets if len(cuts) <= len(every_cut(plan)) // 2 + 1]))
                elif deed == "again":
                    asked, before = own_stale(land, viewer), link.air()
                    self.assertEqual(link.stale(viewer), asked)
                    numbers = link.again(viewer)
                    self.assertEqual((len(numbers), link.air()), (len(asked), before + numbers))
                elif deed == "send":
                    link.send(chance.choice(places(plan)))
                elif air:
                    packet = chance.choice(air)
                    if deed == "bring":
                        link.bring(packet, viewer)
                    elif deed == "lose":
                        link.lose(packet)
                    else:
                        link.double(packet)
                if number % 20 == 19:
                    self.arrives(land, link, viewer, chance)
                self.assertEqual([link.stale(each) for each in viewers], [own_stale(land, each) for each in viewers])

    def arrives(self, land, link, viewer, chance):
        """All that again sends is brought, in any order, amid what was in the air before."""
        before = link.air()
        numbers = link.again(viewer) + before[:len(before) // 2]
        chance.shuffle(numbers)
        for number in numbers:
            link.bring(number, viewer)
        self.assertEqual(viewer.shown(), Mesh(land.plan, viewer.wanted()))
        self.assertEqual((link.stale(viewer), viewer.missing()), ([], []))
        for at in corners(land.plan) + viewer.wanted():
            self.assertEqual(viewer.height(at), land.height(at))

    def test_all_plans(self):
        for plan in PLANS:
            chance = seeded("plans", plan)
            land = land_of(plan, "plans", 400)
            link, viewer = Link(land), viewer_of(land)
            for cuts in closed_sets(plan, 1, chance):
                viewer.want(cuts)
                for _ in range(3):
                    random_deed(land, chance)
                    for number in link.again(viewer)[::2]:
                        link.bring(number, viewer)
                    self.assertEqual(link.stale(viewer), own_stale(land, viewer))
                self.arrives(land, link, viewer, chance)

    def test_made_with_heights_of_some_time(self):
        for plan in EACH_SIDE:
            chance = seeded("time", plan)
            land = land_of(plan, "time", 400)
            early = viewer_of(land)
            for _ in range(9):
                random_deed(land, chance)
            link = Link(land)
            for viewer in (early, viewer_of(land)):
                viewer.want(closed_sets(plan, 3, chance)[-1])
                self.arrives(land, link, viewer, chance)
                random_deed(land, chance)
                land.put((0, 0), 7)
                self.arrives(land, link, viewer, chance)


if __name__ == "__main__":
    unittest.main()
