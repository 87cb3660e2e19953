import copy
import unittest

from braemantle.errors import Cracked, LandError, LookError, NoCut, NoPlace, NotIn, OtherPlan, Twice
from braemantle.mesh import Mesh
from braemantle.moves import walk, way
from plans import (
    PLANS, VAST, Case, beyond, every_cut, kin_of_cuts, meshes, own_crack, own_levels, own_order, plain, places, seeded,
    signature)

EACH_SIDE = [(1, 1, 2), (2, 1, 2), (3, 2, 2), (1, 1, 4), (1, 2, 4), (2, 2, 4), (1, 1, 8)]


def own_way(plan, ones, others, over):
    """The deeds of point 38, by levels."""
    levels = own_levels(plan)
    mended = sorted(set(ones) - set(others), key=lambda at: (-levels[at], at))
    added = own_order(plan, set(others) - set(ones))
    first, second = [("mend", at) for at in mended], [("cut", at) for at in added]
    return second + first if over else first + second


class WayTest(Case):
    def test_both_ways_round(self):
        for plan in EACH_SIDE:
            known = meshes(plan, 4, "way")
            for mesh in known:
                for other in known:
                    for over in (False, True):
                        told = way(mesh, other, over=over)
                        self.assertEqual(told, own_way(plan, mesh.cuts(), other.cuts(), over))
                        self.assertIs(type(told), list)
                        self.assertEqual({type(deed) for deed in told} - {tuple}, set())
                    self.assertEqual(way(mesh, other), way(mesh, other, over=False))

    def test_all_plans(self):
        for plan in PLANS:
            whole, bare = Mesh(plan, every_cut(plan)), Mesh(plan)
            self.assertEqual(way(whole, bare), own_way(plan, every_cut(plan), [], False))
            self.assertEqual(way(bare, whole, over=True), own_way(plan, [], every_cut(plan), True))

    def test_example(self):
        mesh = Mesh((1, 1, 4), [(2, 2), (2, 0), (1, 1), (0, 2)])
        other = Mesh((1, 1, 4), [(2, 2), (4, 2), (2, 4), (3, 3)])
        mended = [("mend", (1, 1)), ("mend", (0, 2)), ("mend", (2, 0))]
        added = [("cut", (2, 4)), ("cut", (4, 2)), ("cut", (3, 3))]
        self.assertEqual(way(mesh, other), mended + added)
        self.assertEqual(way(mesh, other, over=True), added + mended)

    def test_to_itself(self):
        for plan in EACH_SIDE:
            for mesh in meshes(plan, 2, "itself"):
                for over in (False, True):
                    self.assertEqual(way(mesh, mesh, over=over), [])
                    self.assertEqual(way(mesh, Mesh(plan, mesh.cuts()), over=over), [])

    def test_other_plan(self):
        for plan in [(1, 2, 2), (2, 1, 4), (2, 1, 8), (3, 1, 2)]:
            for over in (False, True):
                self.refused(OtherPlan, {}, way, Mesh((2, 1, 2)), Mesh(plan), over=over)
                self.refused(OtherPlan, {}, way, Mesh(plan), Mesh((2, 1, 2)), over=over)
        self.assertTrue(issubclass(OtherPlan, LandError))

    def test_meshes_stay_and_lists_are_made_for_their_asker(self):
        mesh, other = meshes((1, 2, 4), 4, "stay")[-2:]
        cuts = (mesh.cuts(), other.cuts())
        told = way(mesh, other)
        kept = list(told)
        told.clear()
        self.assertEqual(way(mesh, other), kept)
        self.assertTrue(kept)
        self.assertEqual((mesh.cuts(), other.cuts()), cuts)

    def test_interface(self):
        self.assertEqual(signature(way), plain("mesh", "other") + [("over", True, False)])
        self.assertEqual(signature(walk), plain("mesh", "deeds"))

    def test_by_name(self):
        mesh, other = meshes((1, 2, 4), 4, "names")[-2:]
        for over in (False, True):
            self.assertEqual(way(over=over, other=other, mesh=mesh), way(mesh, other, over=over))
        deeds = way(mesh, other)
        self.assertEqual(walk(deeds=deeds, mesh=mesh), walk(mesh, deeds))


class WalkTest(Case):
    def test_one_by_one_without_a_crack(self):
        for plan in EACH_SIDE:
            known = meshes(plan, 3, "walk")
            for mesh in known:
                for other in known[1:]:
                    for over in (False, True):
                        deeds = way(mesh, other, over=over)
                        told = walk(mesh, deeds)
                        self.check(plan, mesh.cuts(), deeds, told)
                        self.assertIs(told[0], mesh)
                        self.assertEqual(told[-1], other)

    def check(self, plan, cuts, deeds, told):
        self.assertIs(type(told), list)
        self.assertEqual(len(told), len(deeds) + 1)
        cuts = set(cuts)
        for each, (word, at) in zip(told[1:], deeds):
            cuts = cuts | {at} if word == "cut" else cuts - {at}
            self.assertEqual((each.plan, each.cuts()), (plan, sorted(cuts)))
            self.assertIsNone(own_crack(plan, cuts))

    def test_no_deeds(self):
        for mesh in meshes((1, 1, 4), 2, "none"):
            self.assertEqual(walk(mesh, []), [mesh])

    def test_to_and_fro(self):
        mesh = Mesh((1, 1, 4), [(2, 2)])
        deeds = [("cut", (2, 0)), ("mend", (2, 0)), ("cut", (0, 2)), ("cut", (2, 0)), ("cut", (1, 1)), ("mend", (1, 1))]
        self.check((1, 1, 4), [(2, 2)], deeds, walk(mesh, deeds))

    def test_random_walks(self):
        for plan in EACH_SIDE:
            chance = seeded("random", plan)
            mesh, deeds, refusals = Mesh(plan), [], set()
            cuts = set()
            parents, children = kin_of_cuts(plan)
            for _ in range(150):
                word, at = chance.choice(["cut", "cut", "mend"]), chance.choice(every_cut(plan))
                lacking = [place for place in parents[at] if place not in cuts]
                there = [place for place in children[at] if place in cuts]
                wrong = deeds + [(word, at), ("cut", (-1, 0)), ("mend", (0, 0))]
                if word == "cut" and at in cuts:
                    self.refused(Twice, {"at": at}, walk, mesh, wrong)
                    refusals.add(Twice)
                elif word == "cut" and lacking:
                    self.refused(Cracked, {"at": at, "other": lacking[0]}, walk, mesh, wrong)
                    refusals.add(Cracked)
                elif word == "mend" and at not in cuts:
                    self.refused(NotIn, {"at": at}, walk, mesh, wrong)
                    refusals.add(NotIn)
                elif word == "mend" and there:
                    self.refused(Cracked, {"at": there[0], "other": at}, walk, mesh, wrong)
                else:
                    deeds.append((word, at))
                    cuts = cuts | {at} if word == "cut" else cuts - {at}
            self.assertEqual(refusals, {Twice, Cracked, NotIn} if plan != (1, 1, 2) else refusals)
            self.check(plan, [], deeds, walk(mesh, deeds))

    def test_first_bad_deed(self):
        mesh = Mesh((1, 1, 4), [(2, 2), (0, 2), (2, 0), (1, 1), (1, 3), (2, 4)])
        good = [("mend", (1, 3)), ("cut", (4, 2))]
        for kind, values, deed in [
                (Twice, {"at": (0, 2)}, ("cut", (0, 2))), (Twice, {"at": (4, 2)}, ("cut", (4, 2))),
                (NotIn, {"at": (1, 3)}, ("mend", (1, 3))), (NotIn, {"at": (3, 3)}, ("mend", (3, 3))),
                (Cracked, {"at": (0, 1), "other": (1, 1)}, ("mend", (1, 1))),
                (Cracked, {"at": (1, 1), "other": (0, 2)}, ("mend", (0, 2))),
                (Cracked, {"at": (0, 2), "other": (2, 2)}, ("mend", (2, 2))),
                (Cracked, {"at": (0, 3), "other": (1, 3)}, ("cut", (0, 3))),
                (Cracked, {"at": (3, 4), "other": (3, 3)}, ("cut", (3, 4))),
                (NoPlace, {"at": (5, 0)}, ("cut", (5, 0))), (NoPlace, {"at": (0, -1)}, ("mend", (0, -1))),
                (NoPlace, {"at": (VAST, 0)}, ("cut", (VAST, 0))), (NoPlace, {"at": (VAST, 0)}, ("mend", (VAST, 0))),
                (NoCut, {"at": (4, 4)}, ("cut", (4, 4))), (NoCut, {"at": (0, 0)}, ("mend", (0, 0)))]:
            ahead = good + [("cut", (0, 1))] if values == {"at": (0, 1), "other": (1, 1)} else good
            for behind in ([], [("cut", (9, 9))], [("mend", (4, 0))], [("cut", (2, 2))]):
                deeds = ahead + [deed] + behind
                handed = copy.deepcopy(deeds)
                self.refused(kind, values, walk, mesh, handed)
                self.assertEqual(handed, deeds)
        self.assertTrue(issubclass(NotIn, LookError))

    def test_no_place_at_all_rims(self):
        for plan in EACH_SIDE[:4]:
            mesh = Mesh(plan, every_cut(plan))
            for word in ("cut", "mend"):
                for at in beyond(plan):
                    self.refused(NoPlace, {"at": at}, walk, mesh, [(word, at)])
                for at in places(plan):
                    if at not in every_cut(plan):
                        self.refused(NoCut, {"at": at}, walk, mesh, [(word, at)])

    def test_what_is_handed_in_stays(self):
        mesh = Mesh((1, 1, 4), [(2, 2)])
        deeds = [("cut", (2, 0)), ("mend", (2, 0))]
        told = walk(mesh, deeds)
        self.assertEqual(deeds, [("cut", (2, 0)), ("mend", (2, 0))])
        deeds.clear()
        self.assertEqual([each.cuts() for each in told], [[(2, 2)], [(2, 0), (2, 2)], [(2, 2)]])
        told.clear()
        self.assertEqual(mesh.cuts(), [(2, 2)])
        self.assertEqual(len(walk(mesh, [("cut", (2, 0))])), 2)


if __name__ == "__main__":
    unittest.main()
