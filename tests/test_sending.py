import copy
import unittest

from braemantle.errors import BadRate, BadRest, Cracked, Lacking, LandError, NoCut, NoPlace, Twice
from braemantle.land import Land
from braemantle.lattice import corners
from braemantle.mesh import Mesh
from braemantle.sending import least_rate, order, regain, rests, sent
from plans import (
    GREAT, PLANS, VAST, Case, beyond, closed_sets, every_cut, kin_of_cuts, land_of, own_crack, own_order, own_shapes,
    plain, seeded, signature, some_cuts)

EACH_SIDE = [(1, 1, 2), (2, 1, 2), (3, 2, 2), (1, 1, 4), (1, 2, 4), (2, 2, 4), (1, 1, 8)]


def own_ends(plan):
    """The ends of the long sides in whose middles the cuts stand, out of the triangles."""
    told = {}
    for ax, ay, bx, by, _, _ in own_shapes(plan):
        if (ax + bx) % 2 == 0 == (ay + by) % 2:
            told[((ax + bx) // 2, (ay + by) // 2)] = sorted([(ax, ay), (bx, by)])
    return told


class OrderTest(Case):
    def test_by_level(self):
        for plan in PLANS:
            for cuts in some_cuts(plan, 3, seeded("order", plan)):
                handed = list(cuts)
                told = order(plan, handed)
                self.assertEqual(told, own_order(plan, cuts))
                self.assertIs(type(told), list)
                self.assertEqual(handed, cuts)

    def test_beginnings_of_closed_sets(self):
        for plan in EACH_SIDE:
            for cuts in closed_sets(plan, 4, seeded("closed", plan)):
                told = order(plan, cuts)
                for many in range(len(told) + 1):
                    self.assertIsNone(own_crack(plan, told[:many]))

    def test_example(self):
        cuts = [(1, 0), (2, 0), (1, 1), (2, 2), (3, 3), (0, 2), (6, 2), (1, 0)]
        self.assertEqual(order((2, 1, 4), cuts), [(2, 2), (6, 2), (0, 2), (2, 0), (1, 1), (3, 3), (1, 0)])

    def test_told_lists_are_made_for_their_asker(self):
        cuts = [(2, 2), (2, 0)]
        told = order((1, 1, 4), cuts)
        told.append((0, 2))
        self.assertEqual((cuts, order((1, 1, 4), cuts)), ([(2, 2), (2, 0)], [(2, 2), (2, 0)]))
        land = Land((1, 1, 4))
        pairs = rests(land, cuts)
        pairs.clear()
        self.assertEqual(rests(land, cuts), [((2, 2), 0), ((2, 0), 0)])

    def test_refusals(self):
        for plan in EACH_SIDE[:4]:
            land, cut = Land(plan), every_cut(plan)[0]
            corner = corners(plan)[-1]
            for at in beyond(plan):
                self.refused(NoPlace, {"at": at}, order, plan, [cut, at, corner])
                self.refused(NoPlace, {"at": at}, rests, land, [at])
            for at in corners(plan):
                self.refused(NoCut, {"at": at}, order, plan, [cut, at, (-1, 0)])
                self.refused(NoCut, {"at": at}, rests, land, [cut, cut, at])

    def test_interface(self):
        self.assertEqual(signature(order), plain("plan", "cuts"))
        self.assertEqual(signature(rests), plain("land", "cuts"))
        self.assertEqual(signature(regain), plain("plan", "heights", "rows"))
        self.assertEqual(signature(sent), plain("plan", "wants") + [("rate", True, 1), ("ahead", True, 0)])
        self.assertEqual(signature(least_rate), plain("plan", "wants") + [("ahead", True, 0)])

    def test_by_name(self):
        plan, cuts, land = (1, 1, 4), [(2, 0), (2, 2)], land_of((1, 1, 4), "names")
        self.assertEqual(order(cuts=cuts, plan=plan), order(plan, cuts))
        rows = rests(cuts=cuts, land=land)
        self.assertEqual(rows, rests(land, cuts))
        heights = {at: land.height(at) for at in corners(plan)}
        self.assertEqual(regain(rows=rows, heights=heights, plan=plan), regain(plan, heights, rows))
        self.assertEqual(sent(ahead=1, wants=[cuts], rate=2, plan=plan), sent(plan, [cuts], rate=2, ahead=1))
        self.assertEqual(least_rate(ahead=1, wants=[cuts], plan=plan), least_rate(plan, [cuts], ahead=1))


class RestsTest(Case):
    def test_all_plans(self):
        for plan in PLANS:
            land, ends = land_of(plan, "rests"), own_ends(plan)
            for cuts in some_cuts(plan, 2, seeded("rests", plan)):
                handed = list(cuts)
                asked = [(at, 2 * land.height(at) - sum(land.height(place) for place in ends[at]))
                         for at in own_order(plan, cuts)]
                told = rests(land, handed)
                self.assertEqual(told, asked)
                self.assertEqual((type(told), {type(row) for row in told} - {tuple}), (list, set()))
                self.assertEqual(handed, cuts)

    def test_behind_deeds(self):
        land = Land((1, 1, 4))
        cuts = [(2, 2), (2, 0), (1, 1)]
        for deed, asked in [(lambda: land.put((2, 2), 7), [14, 0, -7]), (lambda: land.put((0, 0), 3), [11, -3, -10]),
                            (land.undo, [14, 0, -7]), (land.undo, [0, 0, 0]), (land.redo, [14, 0, -7]),
                            (lambda: land.lift((0, 0), (4, 4), by=5), [14, 0, -7])]:
            deed()
            self.assertEqual(rests(land, cuts), list(zip([(2, 2), (2, 0), (1, 1)], asked)))


class RegainTest(Case):
    def test_the_lands_heights(self):
        for plan in PLANS:
            land = land_of(plan, "regain")
            heights = {at: land.height(at) for at in corners(plan)}
            for cuts in closed_sets(plan, 2, seeded("regain", plan)):
                rows = rests(land, cuts)
                told = regain(plan, heights, rows)
                self.assertIs(type(told), dict)
                self.assertEqual(told, {at: land.height(at) for at in list(heights) + cuts})
                half = len(rows) // 2
                self.assertEqual(regain(plan, regain(plan, heights, rows[:half]), rows[half:]), told)

    def test_no_rows(self):
        for heights in ({}, {(0, 0): 4}, {(1, 1): VAST, (3, 3): -5}):
            told = regain((1, 1, 4), heights, [])
            self.assertTrue(told == heights)
            self.assertIsNot(told, heights)

    def test_any_row_whose_ends_are_known(self):
        # No parent has to be there, as long as the ends are.
        told = regain((1, 1, 4), {(0, 0): 1, (2, 0): 4}, [((1, 0), 5)])
        self.assertEqual(told, {(0, 0): 1, (2, 0): 4, (1, 0): 5})
        told = regain((1, 1, 4), {(0, 0): GREAT, (4, 4): -GREAT}, [((2, 2), -6), ((1, 1), GREAT + 3 + GREAT)])
        self.assertEqual(told, {(0, 0): GREAT, (4, 4): -GREAT, (2, 2): -3, (1, 1): 3 * GREAT // 2})

    def test_row_by_row(self):
        plan = (1, 1, 4)
        known = {(0, 0): 3, (4, 4): 5, (0, 4): 0}
        good = [((2, 2), 2), ((1, 1), 0)]
        for kind, values, row in [
                (NoPlace, {"at": (5, 0)}, ((5, 0), 1)), (NoPlace, {"at": (0, -1)}, ((0, -1), 0)),
                (NoCut, {"at": (0, 0)}, ((0, 0), 1)), (NoCut, {"at": (4, 0)}, ((4, 0), 1)),
                (Twice, {"at": (2, 2)}, ((2, 2), 2)), (Twice, {"at": (1, 1)}, ((1, 1), 1)),
                (Lacking, {"at": (2, 0), "other": (4, 0)}, ((2, 0), 1)),
                (Lacking, {"at": (3, 0), "other": (2, 0)}, ((3, 0), 1)),
                (Lacking, {"at": (1, 0), "other": (2, 0)}, ((1, 0), 1)),
                (Lacking, {"at": (0, 3), "other": (0, 2)}, ((0, 3), 0)),
                (BadRest, {"at": (3, 3), "rest": 1}, ((3, 3), 1)), (BadRest, {"at": (0, 2), "rest": 0}, ((0, 2), 0)),
                (BadRest, {"at": (0, 2), "rest": -GREAT}, ((0, 2), -GREAT)),
                (BadRest, {"at": (0, 2), "rest": -4}, ((0, 2), -4)), (BadRest, {"at": (0, 2), "rest": VAST},
                                                                     ((0, 2), VAST))]:
            for behind in ([], [((9, 9), 0)], [((0, 0), 0)], [((2, 2), 0)], [((3, 0), 0)]):
                rows, handed = good + [row] + behind, dict(known)
                self.refused(kind, values, regain, plan, handed, rows)
                self.assertEqual((handed, rows), (known, good + [row] + behind))
        for kind in (Twice, Lacking, BadRest):
            self.assertTrue(issubclass(kind, LandError))

    def test_twice_by_the_handed_heights(self):
        self.refused(Twice, {"at": (2, 2)}, regain, (1, 1, 4), {(2, 2): 0}, [((2, 2), 1)])

    def test_lacking_both_ends(self):
        for plan in EACH_SIDE:
            for at, (one, other) in own_ends(plan).items():
                self.refused(Lacking, {"at": at, "other": one}, regain, plan, {}, [(at, 0)])
                self.refused(Lacking, {"at": at, "other": one}, regain, plan, {other: 0}, [(at, 1)])
                self.refused(Lacking, {"at": at, "other": other}, regain, plan, {one: 0}, [(at, 0)])
                self.refused(BadRest, {"at": at, "rest": -1}, regain, plan, {one: 0, other: 2}, [(at, -1)])
                self.assertEqual(regain(plan, {one: 0, other: 5}, [(at, -1)])[at], 2)

    def test_no_place_and_no_cut(self):
        for plan in EACH_SIDE[:4]:
            for at in beyond(plan):
                self.refused(NoPlace, {"at": at}, regain, plan, {}, [(at, 0)])
            for at in corners(plan):
                self.refused(NoCut, {"at": at}, regain, plan, {at: 1}, [(at, 0)])

    def test_dicts_stay(self):
        heights, rows = {(0, 0): 3, (4, 4): 5}, [((2, 2), 2)]
        told = regain((1, 1, 4), heights, rows)
        self.assertEqual((heights, rows), ({(0, 0): 3, (4, 4): 5}, [((2, 2), 2)]))
        told[(0, 0)] = 77
        del told[(2, 2)]
        self.assertEqual(heights, {(0, 0): 3, (4, 4): 5})
        self.assertEqual(regain((1, 1, 4), heights, rows), {(0, 0): 3, (4, 4): 5, (2, 2): 5})
        heights[(0, 0)] = 9
        self.assertEqual(told, {(0, 0): 77, (4, 4): 5})


def flights(plan, many, word):
    """Lists of closed sets for flights: short and long, with sets that come again and empty ones."""
    chance = seeded(word, plan)
    told = [[], [[]], [[], []], [every_cut(plan)], [[], every_cut(plan), []]]
    for number in range(many):
        sets = closed_sets(plan, 5, chance)
        chance.shuffle(sets)
        flight = sets[:number % 6]
        for each in flight:
            chance.shuffle(each)
        told.append(flight + flight[:1] + [[]] * (number % 2))
    return told


def own_flight(plan, wants, rate, ahead):
    """A flight by point 41, with lists filled one cut after the other."""
    wanted, row = set(), []
    for moment, cuts in enumerate(wants):
        row += own_order(plan, set(cuts) - wanted)
        wanted |= set(cuts)
        if len(wanted) > ahead + rate * (moment + 1):
            return ("late", moment, len(wanted), ahead + rate * (moment + 1))
    rows = [[] for _ in range(len(wants) + 1)]
    number = 0
    for at in row:
        while len(rows[number]) >= (rate if number else ahead):
            number += 1
        rows[number].append(at)
    return ("goes", rows)


class SentTest(Case):
    def test_flights(self):
        words = set()
        for plan in EACH_SIDE:
            for wants in flights(plan, 8, "flights"):
                for rate in (0, 1, 2, 3, 7, 20, 200, GREAT):
                    for ahead in (0, 1, 4, 11, 150, GREAT):
                        told = sent(plan, wants, rate=rate, ahead=ahead)
                        self.assertEqual(told, own_flight(plan, wants, rate, ahead))
                        self.assertIs(type(told), tuple)
                        words.add(told[0])
                        if told[0] == "goes":
                            self.check(plan, wants, told[1])
        self.assertEqual(words, {"goes", "late"})

    def check(self, plan, wants, rows):
        """What point 41 says of the rows of a flight that goes."""
        self.assertEqual((len(rows), {type(row) for row in rows}), (len(wants) + 1, {list}))
        whole = [at for row in rows for at in row]
        self.assertEqual(len(whole), len(set(whole)))
        self.assertEqual(set(whole), {at for cuts in wants for at in cuts})
        parents, seen = kin_of_cuts(plan)[0], set()
        for at in whole:
            self.assertLessEqual(set(parents[at]), seen)
            seen.add(at)
        for moment, cuts in enumerate(wants):
            self.assertLessEqual(set(cuts), {at for row in rows[:moment + 2] for at in row})

    def test_left_out(self):
        for plan in EACH_SIDE:
            for wants in flights(plan, 6, "left"):
                self.assertEqual(sent(plan, wants), own_flight(plan, wants, 1, 0))
                self.assertEqual(sent(plan, wants, rate=5), own_flight(plan, wants, 5, 0))
                self.assertEqual(sent(plan, wants, ahead=9), own_flight(plan, wants, 1, 9))

    def test_all_plans(self):
        for plan in PLANS:
            wants = closed_sets(plan, 2, seeded("all", plan))[2:] + [[]]
            rate = least_rate(plan, wants, ahead=4)
            self.assertEqual(sent(plan, wants, rate=rate, ahead=4), own_flight(plan, wants, rate, 4))

    def test_great_numbers(self):
        wants = [[(2, 2)], [(2, 2), (2, 0)]]
        self.assertEqual(sent((1, 1, 4), wants, rate=VAST), ("goes", [[], [(2, 2), (2, 0)], []]))
        self.assertEqual(sent((1, 1, 4), wants, ahead=VAST), ("goes", [[(2, 2), (2, 0)], [], []]))
        self.assertEqual(sent((1, 1, 4), wants, rate=VAST, ahead=VAST), ("goes", [[(2, 2), (2, 0)], [], []]))

    def test_examples(self):
        one, two = [(2, 2)], [(2, 2), (0, 2), (2, 0), (1, 1)]
        self.assertEqual(sent((1, 1, 4), []), ("goes", [[]]))
        self.assertEqual(sent((1, 1, 4), [], rate=9, ahead=9), ("goes", [[]]))
        self.assertEqual(sent((1, 1, 4), [[], []], rate=0), ("goes", [[], [], []]))
        self.assertEqual(sent((1, 1, 4), [one, one, one], rate=1), ("goes", [[], [(2, 2)], [], []]))
        self.assertEqual(sent((1, 1, 4), [one, two], rate=2), ("goes", [[], [(2, 2), (0, 2)], [(2, 0), (1, 1)]]))
        self.assertEqual(sent((1, 1, 4), [one, two], rate=1, ahead=1), ("late", 1, 4, 3))
        self.assertEqual(sent((1, 1, 4), [one, two], rate=0, ahead=0), ("late", 0, 1, 0))
        self.assertEqual(sent((1, 1, 4), [one, two], rate=0, ahead=4),
                         ("goes", [[(2, 2), (0, 2), (2, 0), (1, 1)], [], []]))
        self.assertEqual(sent((1, 1, 4), [two + one, one], rate=3, ahead=1),
                         ("goes", [[(2, 2)], [(0, 2), (2, 0), (1, 1)], []]))

    def test_first_needed_come_first(self):
        # The second moment's cut is of a lesser level than the first one's last.
        told = sent((2, 1, 4), [[(2, 2), (2, 0), (0, 2), (1, 1)], [(6, 2)]], rate=3, ahead=1)
        self.assertEqual(told, ("goes", [[(2, 2)], [(0, 2), (2, 0), (1, 1)], [(6, 2)]]))

    def test_bad_rate(self):
        plan, wrong = (1, 1, 4), [[(9, 9)], [(0, 0)], [(1, 1)]]
        for rate in (-1, -7, -GREAT, -VAST):
            for wants in ([], [[(2, 2)]], wrong):
                self.refused(BadRate, {"rate": rate}, sent, plan, wants, rate=rate)
                self.refused(BadRate, {"rate": rate}, sent, plan, wants, rate=rate, ahead=-3)
                self.refused(BadRate, {"rate": rate}, sent, plan, wants, ahead=rate)
                self.refused(BadRate, {"rate": rate}, sent, plan, wants, rate=0, ahead=rate)
                self.refused(BadRate, {"rate": rate}, least_rate, plan, wants, ahead=rate)
        self.assertTrue(issubclass(BadRate, LandError))

    def test_first_set_that_is_refused(self):
        plan = (1, 1, 4)
        bad = [(NoPlace, {"at": (5, 5)}, [(2, 2), (5, 5), (0, 0), (1, 1)]), (NoPlace, {"at": (VAST, 0)}, [(VAST, 0)]),
               (NoCut, {"at": (4, 0)}, [(1, 1), (4, 0), (5, 5)]), (Cracked, {"at": (1, 1), "other": (0, 2)},
                                                                   [(3, 3), (1, 1), (2, 2)]),
               (Cracked, {"at": (0, 2), "other": (2, 2)}, [(0, 2)])]
        for kind, values, cuts in bad:
            for ahead in ([], [[]], [[(2, 2)]], [every_cut(plan), []]):
                for behind in ([], [[(2, 2)]], [[(9, 9)]], [[(0, 0)]], [[(2, 0)]]):
                    wants = ahead + [cuts] + behind
                    handed = copy.deepcopy(wants)
                    # Without a rate every flight is late at its first wanted cut, yet the refusal goes first.
                    for rate in (0, 1, 99):
                        self.refused(kind, values, sent, plan, handed, rate=rate)
                    self.refused(kind, values, least_rate, plan, handed)
                    self.assertEqual(handed, wants)

    def test_refused_like_mesh(self):
        for plan in EACH_SIDE:
            for cuts in some_cuts(plan, 6, seeded("like", plan)):
                if own_crack(plan, cuts) is not None:
                    at, other = own_crack(plan, cuts)
                    self.refused(Cracked, {"at": at, "other": other}, sent, plan, [[], cuts])
                    self.refused(Cracked, {"at": at, "other": other}, least_rate, plan, [cuts], ahead=GREAT)
                    self.refused(Cracked, {"at": at, "other": other}, Mesh, plan, cuts)

    def test_what_is_handed_in_stays(self):
        wants = [[(2, 0), (2, 2), (2, 0)], [(2, 2)]]
        told = sent((1, 1, 4), wants, rate=1, ahead=1)
        self.assertEqual(wants, [[(2, 0), (2, 2), (2, 0)], [(2, 2)]])
        kept = copy.deepcopy(told)
        wants[0].clear()
        self.assertEqual(told, kept)
        for row in told[1]:
            row.clear()
        self.assertEqual(sent((1, 1, 4), [[(2, 0), (2, 2)], [(2, 2)]], rate=1, ahead=1), kept)
        rows = sent((1, 1, 4), [[], []], rate=3)[1]
        rows[0].append(1)
        self.assertEqual(rows, [[1], [], []])


class LeastRateTest(Case):
    def test_goes_and_with_one_less_is_late(self):
        for plan in EACH_SIDE:
            for wants in flights(plan, 10, "least"):
                for ahead in (0, 1, 3, 8, 30, 500, GREAT):
                    rate = least_rate(plan, wants, ahead=ahead)
                    self.assertIs(type(rate), int)
                    self.assertEqual(sent(plan, wants, rate=rate, ahead=ahead)[0], "goes")
                    if rate:
                        self.assertEqual(sent(plan, wants, rate=rate - 1, ahead=ahead)[0], "late")
                    self.assertGreaterEqual(rate, 0)
                self.assertEqual(least_rate(plan, wants), least_rate(plan, wants, ahead=0))

    def test_examples(self):
        two = [(2, 2), (0, 2), (2, 0), (1, 1)]
        self.assertEqual(least_rate((1, 1, 4), []), 0)
        self.assertEqual(least_rate((1, 1, 4), [[], []]), 0)
        self.assertEqual(least_rate((1, 1, 4), [two]), 4)
        self.assertEqual(least_rate((1, 1, 4), [[], [], two]), 2)
        self.assertEqual(least_rate((1, 1, 4), [[], two]), 2)
        self.assertEqual(least_rate((1, 1, 4), [[], two], ahead=1), 2)
        self.assertEqual(least_rate((1, 1, 4), [[], two], ahead=2), 1)
        self.assertEqual(least_rate((1, 1, 4), [two, two], ahead=4), 0)
        self.assertEqual(least_rate((1, 1, 4), [two], ahead=VAST), 0)


if __name__ == "__main__":
    unittest.main()
