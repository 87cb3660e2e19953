import itertools
import unittest

from braemantle.closing import above, crack, lacks, why, within
from braemantle.errors import LookError, NoCut, NoPlace, NotHeld, NotIn
from plans import (
    PLANS, beyond, closed_sets, kin_of_cuts, own_above, own_crack, own_within, places, plain, seeded, signature,
    some_cuts)

SMALL = [(1, 1, 2), (2, 1, 2), (1, 2, 2), (1, 1, 4), (2, 2, 4), (3, 1, 4), (1, 1, 8), (2, 1, 8)]


def every_cut(plan):
    return [at for at in places(plan) if at[0] % plan[2] or at[1] % plan[2]]


def corners(plan):
    return [at for at in places(plan) if not at[0] % plan[2] and not at[1] % plan[2]]


def all_sets(plan):
    every = every_cut(plan)
    return [list(some) for many in range(len(every) + 1) for some in itertools.combinations(every, many)]


def is_closed(plan, cuts):
    parents = kin_of_cuts(plan)[0]
    return all(place in cuts for at in cuts for place in parents[at])


class SetsTest(unittest.TestCase):
    def test_a_small_block_against_all_of_its_sets(self):
        plan = (1, 1, 2)
        every = all_sets(plan)
        self.assertEqual(len(every), 32)
        closed = [set(some) for some in every if is_closed(plan, some)]
        self.assertEqual(len(closed), 17)
        for some in every:
            greater = [one for one in closed if one >= set(some)]
            lesser = [one for one in closed if one <= set(some)]
            self.assertEqual(above(plan, some), sorted(set.intersection(*greater)))
            self.assertEqual(within(plan, some), sorted(set.union(*lesser)))
            self.assertEqual(crack(plan, some) is None, set(some) in closed)
            self.assertEqual(crack(plan, some), own_crack(plan, some))

    def test_two_small_blocks_against_all_of_their_sets(self):
        plan = (2, 1, 2)
        for some in all_sets(plan):
            self.assertEqual(above(plan, some), own_above(plan, some))
            self.assertEqual(within(plan, some), own_within(plan, some))
            self.assertEqual(crack(plan, some), own_crack(plan, some))

    def test_all_plans(self):
        for plan in PLANS:
            chance = seeded("sets", plan)
            for some in some_cuts(plan, 6, chance):
                kept = list(some)
                self.assertEqual(above(plan, some), own_above(plan, some))
                self.assertEqual(within(plan, some), own_within(plan, some))
                self.assertEqual(crack(plan, some), own_crack(plan, some))
                self.assertEqual(some, kept)

    def test_closed_sets_and_such_with_cuts_taken_out(self):
        for plan in PLANS:
            chance = seeded("closed", plan)
            for some in closed_sets(plan, 4, chance):
                chance.shuffle(some)
                self.assertIsNone(crack(plan, some))
                self.assertIsNone(crack(plan, some + some[:2]))
                self.assertEqual(above(plan, some), sorted(some))
                self.assertEqual(within(plan, some), sorted(some))
                for _ in range(3):
                    holes = chance.sample(some, min(len(some), chance.randint(1, 3)))
                    fewer = [at for at in some if at not in holes]
                    self.assertEqual(crack(plan, fewer), own_crack(plan, fewer))
                    self.assertEqual(above(plan, fewer), own_above(plan, fewer))
                    self.assertEqual(within(plan, fewer), own_within(plan, fewer))

    def test_order_and_number_of_times_do_not_count(self):
        plan = (2, 1, 4)
        chance = seeded("order")
        some = [(1, 1), (7, 3), (4, 2), (2, 2), (5, 4)]
        told = (crack(plan, some), above(plan, some), within(plan, some))
        for _ in range(20):
            mixed = some * 3
            chance.shuffle(mixed)
            self.assertEqual((crack(plan, mixed), above(plan, mixed), within(plan, mixed)), told)

    def test_examples(self):
        plan = (2, 1, 4)
        self.assertEqual(crack(plan, [(4, 2)]), ((4, 2), (2, 2)))
        self.assertEqual(crack(plan, [(4, 2), (2, 2)]), ((4, 2), (6, 2)))
        self.assertIsNone(crack(plan, [(4, 2), (6, 2), (2, 2)]))
        self.assertEqual(crack(plan, [(5, 1), (1, 1), (2, 2)]), ((1, 1), (0, 2)))
        self.assertEqual(above(plan, [(4, 2)]), [(2, 2), (4, 2), (6, 2)])
        self.assertEqual(above(plan, [(1, 1)]), [(0, 2), (1, 1), (2, 0), (2, 2)])
        self.assertEqual(within(plan, [(4, 2), (6, 2), (1, 1)]), [(6, 2)])
        self.assertIsNone(crack(plan, []))
        self.assertEqual((above(plan, []), within(plan, [])), ([], []))

    def test_what_was_told_tells_the_same(self):
        for plan in SMALL:
            for some in some_cuts(plan, 5, seeded("again", plan)):
                for function in (above, within):
                    told = function(plan, some)
                    self.assertEqual(function(plan, told), told)
                    self.assertEqual(crack(plan, told), None)
                    self.assertEqual((above(plan, told), within(plan, told)), (told, told))

    def test_kinds_and_made_for_the_asker(self):
        plan, some = (1, 1, 4), [(2, 2), (1, 1), (0, 2), (2, 0)]
        for function in (above, within):
            told = function(plan, some)
            self.assertIs(type(told), list)
            self.assertIsNot(told, some)
            self.assertEqual({type(at) for at in told}, {tuple})
            told.clear()
            self.assertEqual(function(plan, some), sorted(some))
        self.assertIs(type(crack(plan, [(1, 1)])), tuple)
        self.assertIs(type(crack(plan, [(1, 1)])[1]), tuple)
        self.assertEqual(some, [(2, 2), (1, 1), (0, 2), (2, 0)])

    def test_signatures(self):
        for function in (crack, above, within):
            self.assertEqual(signature(function), plain("plan", "cuts"))
            function(cuts=[(1, 1)], plan=(1, 1, 2))
        for function in (why, lacks):
            self.assertEqual(signature(function), plain("plan", "cuts", "at"))
        self.assertEqual(why(at=(1, 1), cuts=[(1, 0)], plan=(1, 1, 2)), [(1, 1), (1, 0)])
        self.assertEqual(lacks(at=(1, 0), cuts=[(1, 0)], plan=(1, 1, 2)), [(1, 0), (1, 1)])


class ChainsTest(unittest.TestCase):
    def walk_why(self, plan, cuts, at):
        parents = kin_of_cuts(plan)[0]
        chain = why(plan, cuts, at)
        self.assertIs(type(chain), list)
        self.assertEqual({type(place) for place in chain}, {tuple})
        self.assertEqual(chain[0], at)
        for ahead, behind in zip(chain, chain[1:]):
            self.assertIn(ahead, parents[behind])
        self.assertIn(chain[-1], cuts)

    def walk_lacks(self, plan, cuts, at):
        parents = kin_of_cuts(plan)[0]
        chain = lacks(plan, cuts, at)
        self.assertIs(type(chain), list)
        self.assertEqual({type(place) for place in chain}, {tuple})
        self.assertEqual(chain[0], at)
        for ahead, behind in zip(chain, chain[1:]):
            self.assertIn(behind, parents[ahead])
            self.assertIn(ahead, cuts)
        self.assertNotIn(chain[-1], cuts)

    def check(self, plan, cuts):
        kept = list(cuts)
        closed, held = own_above(plan, cuts), own_within(plan, cuts)
        for at in every_cut(plan):
            if at in closed:
                self.walk_why(plan, cuts, at)
            else:
                with self.assertRaises(NotIn) as caught:
                    why(plan, cuts, at)
                self.assertEqual(caught.exception.at, at)
                self.assertIsInstance(caught.exception, LookError)
            if at in held:
                with self.assertRaises(NotHeld) as caught:
                    lacks(plan, cuts, at)
                self.assertEqual(caught.exception.at, at)
                self.assertIsInstance(caught.exception, LookError)
            else:
                self.walk_lacks(plan, cuts, at)
        self.assertEqual(cuts, kept)

    def test_a_small_block(self):
        for some in all_sets((1, 1, 2)):
            self.check((1, 1, 2), some)

    def test_plans_of_each_side(self):
        for plan in SMALL:
            chance = seeded("chains", plan)
            for some in some_cuts(plan, 5, chance):
                self.check(plan, some)
            for some in closed_sets(plan, 2, chance):
                holes = chance.sample(some, min(len(some), 2))
                self.check(plan, [at for at in some if at not in holes])

    def test_long_chains(self):
        plan = (1, 1, 8)
        self.assertEqual(why(plan, [(1, 0)], (4, 4))[::len(why(plan, [(1, 0)], (4, 4))) - 1], [(4, 4), (1, 0)])
        self.assertEqual(len(why(plan, [(1, 0)], (4, 4))), 6)
        every = every_cut(plan)
        every.remove((4, 4))
        self.assertEqual(len(lacks(plan, every, (1, 0))), 6)
        self.assertEqual(lacks(plan, every, (1, 0))[-1], (4, 4))

    def test_made_for_the_asker(self):
        plan, some = (1, 1, 2), [(1, 1), (1, 0)]
        first = why(plan, some, (1, 1))
        first.clear()
        self.walk_why(plan, some, (1, 1))
        first = lacks(plan, [], (1, 1))
        first.clear()
        self.assertEqual(lacks(plan, [], (1, 1)), [(1, 1)])
        self.assertEqual(some, [(1, 1), (1, 0)])


class RefusalsTest(unittest.TestCase):
    def refused(self, kind, at, function, *things):
        with self.assertRaises(kind) as caught:
            function(*things)
        self.assertTrue(caught.exception.at == at)

    def test_no_place_and_no_cut_in_the_list(self):
        for plan in PLANS[::4] + [(1, 1, 2)]:
            centre = (plan[2] // 2, plan[2] // 2)
            for kind, wrong in [(NoPlace, at) for at in beyond(plan)] + [(NoCut, at) for at in corners(plan)]:
                for function in (crack, above, within):
                    self.refused(kind, wrong, function, plan, [centre, wrong])
                    self.refused(kind, wrong, function, plan, [wrong])
                for function in (why, lacks):
                    self.refused(kind, wrong, function, plan, [centre, wrong], centre)
                    self.refused(kind, wrong, function, plan, [centre], wrong)
                    self.refused(kind, wrong, function, plan, [], wrong)

    def test_the_first_wrong_one_goes_first(self):
        plan = (1, 1, 4)
        for function in (crack, above, within):
            self.refused(NoCut, (4, 4), function, plan, [(1, 1), (4, 4), (5, 5)])
            self.refused(NoPlace, (5, 5), function, plan, [(1, 1), (5, 5), (4, 4), (-1, 0)])
            self.refused(NoPlace, (8, 8), function, plan, [(8, 8), (0, 0)])
            self.refused(NoPlace, (5, 0), function, plan, [(5, 0), (-1, 0)])

    def test_the_list_is_looked_at_first(self):
        plan = (1, 1, 4)
        for function in (why, lacks):
            self.refused(NoCut, (4, 4), function, plan, [(2, 2), (4, 4)], (9, 9))
            self.refused(NoPlace, (5, 5), function, plan, [(2, 2), (5, 5)], (4, 4))
            self.refused(NoPlace, (5, 5), function, plan, [(2, 2), (5, 5)], (9, 9))
            self.refused(NoPlace, (8, 8), function, plan, [(2, 2)], (8, 8))
        self.refused(NoPlace, (5, 5), why, plan, [(2, 2), (5, 5)], (1, 1))
        self.refused(NoPlace, (5, 5), lacks, plan, [(2, 2), (5, 5)], (2, 2))


if __name__ == "__main__":
    unittest.main()
