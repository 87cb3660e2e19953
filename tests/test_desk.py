import unittest
from fractions import Fraction

from braemantle.desk import Desk
from braemantle.errors import (
    BadHeight, BadLine, BadSize, BadView, LandError, LookError, NameFault, NoLand, NoName, NoPlace, NothingLeft, TooFew)
from braemantle.land import Land
from braemantle.least import budget, least
from braemantle.pages import code
from braemantle.views import View
from plans import PLANS, Case, own_gaps, own_shapes, places, plain, seeded, signature

# One line of each form, such as a desk with a view called a does.
GOOD = ["land 1 1 4", "put 2 2 5", "undo", "redo", "view a 3", "drop a", "show a", "budget 9"]
BAD_NUMBERS = ["+1", "01", "-0", "00", "", "-", "--1", "1.0", "1_0", "0x1", "1234567890", "-1234567890", "1" * 5000,
               "\uff11", "\u0661", "\u00b2", "1\n", "\t1", "one", "a", "None", "1,", "- 1", "\u22121"]
BAD_NAMES = ["", "A", "aB", "a1", "a_b", "a-b", "abcdefghi", "\u00e9", "a\u00e9", "1", "a.", "a\n", "\ta", "z" * 5000]


def desk_with(*lines):
    desk = Desk()
    for line in lines:
        desk.do(line)
    return desk


def state(desk):
    """All that shows of a desk but its land's tries."""
    if desk.land is None:
        return None
    return (desk.land, desk.land.plan, desk.land.rows(), desk.land.edition,
            [desk.land.since(at) for at in places(desk.land.plan)])


class LinesTest(Case):
    def test_land(self):
        desk = Desk()
        self.assertIsNone(desk.land)
        for plan in PLANS:
            self.assertEqual(desk.do("land {} {} {}".format(*plan)), "ok")
            self.assertEqual((desk.land, desk.land.plan), (Land(plan), plan))
            self.assertEqual((desk.land.edition, desk.land.tries), (0, 0))

    def test_land_with_wrong_sizes(self):
        for before in ([], ["land 1 2 4", "put 2 2 5", "view a 3"]):
            for sizes, wrong in [("0 1 2", 0), ("4 1 2", 4), ("1 0 2", 0), ("1 4 2", 4), ("1 1 3", 3), ("1 1 0", 0),
                                 ("1 1 16", 16), ("-1 9 9", -1), ("1 -3 9", -3), ("999999999 0 0", 999999999),
                                 ("1 1 -999999999", -999999999), ("9 8 7", 9), ("3 8 7", 8), ("3 3 7", 7)]:
                desk = desk_with(*before)
                kept = state(desk)
                self.refused(BadSize, {"size": wrong}, desk.do, "land " + sizes)
                self.assertEqual(state(desk), kept)
                if before:
                    self.assertTrue(desk.do("show a"))

    def test_put_undo_redo(self):
        for plan in [(1, 1, 2), (2, 1, 2), (1, 1, 4), (1, 2, 4), (1, 1, 8)]:
            chance = seeded("deeds", plan)
            desk = desk_with("land {} {} {}".format(*plan))
            rows, kept = desk.land.rows(), []
            for _ in range(6):
                (x, y), high = chance.choice(places(plan)), chance.choice([-1000, 1000, -7, 0, 3])
                kept.append([list(row) for row in rows])
                rows[y][x] = high
                self.turned(desk, f"put {x} {y} {high}", plan, kept[-1], rows)
            for before in kept[::-1]:
                self.turned(desk, "undo", plan, rows, before)
                rows = before
            for after in kept[1:]:
                self.turned(desk, "redo", plan, rows, after)
                rows = after

    def turned(self, desk, line, plan, before, after):
        ones, others = own_gaps(plan, before), own_gaps(plan, after)
        many = len([shape for shape in own_shapes(plan) if ones[shape] != others[shape]])
        self.assertEqual(desk.do(line), f"turned {many}")
        self.assertEqual(desk.land.rows(), after)

    def test_view_show_drop(self):
        desk = desk_with("land 2 1 4", "put 3 2 90", "put 6 1 -41")
        land = desk.land
        for name, tolerance in [("a", 0), ("abcdefgh", 20), ("land", 41), ("z", 999999999), ("a", 50)]:
            self.assertEqual(desk.do(f"view {name} {tolerance}"), "ok")
            mesh = least(land, View(tolerance))
            self.assertEqual(desk.do(f"show {name}"), f"{len(mesh)} {code(mesh)}")
        for name, tolerance in [("abcdefgh", 20), ("land", 41), ("z", 999999999), ("a", 50)]:
            mesh = least(land, View(tolerance))
            self.assertEqual(desk.do(f"show {name}"), f"{len(mesh)} {code(mesh)}")
        self.assertEqual(desk.do("show z"), "4 2 1 4 0")
        self.assertEqual(desk.do("drop land"), "ok")
        self.refused(NoName, {"name": "land"}, desk.do, "show land")
        self.refused(NoName, {"name": "land"}, desk.do, "drop land")
        self.assertEqual(desk.do("view land 999"), "ok")
        self.assertEqual(desk.do("show land"), "4 2 1 4 0")

    def test_show_goes_by_the_land_of_now(self):
        desk = desk_with("land 1 1 2", "view a 3")
        self.assertEqual(desk.do("show a"), "2 1 1 2 0")
        desk.do("put 1 1 9")
        self.assertEqual(desk.do("show a"), "4 1 1 2 4")
        desk.do("undo")
        self.assertEqual(desk.do("show a"), "2 1 1 2 0")
        desk.do("redo")
        desk.do("view a 9")
        self.assertEqual(desk.do("show a"), "2 1 1 2 0")

    def test_budget(self):
        desk = desk_with("land 1 1 4", "put 1 1 5", "put 2 2 8", "put 4 2 3")
        seen = set()
        for most in list(range(2, 40)) + [999999999]:
            (over, under), mesh, _ = budget(desk.land, most=most)
            told = desk.do(f"budget {most}")
            self.assertEqual(told, f"{over}/{under} {len(mesh)}")
            seen.add(Fraction(over, under))
        self.assertGreater(len(seen), 3)
        self.assertEqual(desk.do("budget 32").split(" ")[0], "0/1")
        for most in (1, 0, -1, -999999999):
            self.refused(TooFew, {"most": most}, desk.do, f"budget {most}")

    def test_budget_writes_shares(self):
        desk = desk_with("land 1 1 2", "put 0 0 3")
        self.assertEqual(desk.do("budget 2"), "3/2 2")
        self.assertEqual(desk.do("budget 8"), "0/1 6")

    def test_interface(self):
        self.assertEqual(signature(Desk), [])
        self.assertEqual(signature(Desk.do), plain("self", "line"))
        desk = Desk()
        self.assertEqual(desk.do(line="land 1 1 2"), "ok")


class RefusalsTest(Case):
    def bad(self, line):
        """A line that is none, refused with and without a land, and with nothing changed, not even tries."""
        for desk in (Desk(), desk_with("land 1 1 4", "put 2 2 5", "view a 3")):
            kept, tries = state(desk), desk.land and desk.land.tries
            self.refused(BadLine, {"line": line}, desk.do, line)
            self.assertEqual((state(desk), desk.land and desk.land.tries), (kept, tries))

    def test_blanks(self):
        for line in GOOD:
            self.bad(" " + line)
            self.bad(line + " ")
            self.bad(line + "\n")
            self.bad("\n" + line)
            self.bad(line + "\r")
            self.bad(line.replace(" ", "  ", 1) if " " in line else line + "  ")
            self.bad(line.replace(" ", "\t", 1) if " " in line else "\t" + line)
            self.bad(line.replace(" ", "\u00a0") if " " in line else "\u00a0" + line)

    def test_words_more_or_fewer(self):
        for line in GOOD:
            words = line.split(" ")
            for number in range(len(words)):
                self.bad(" ".join(words[:number] + words[number + 1:]))
            self.bad(line + " 1")
            self.bad(line + " a")
            self.bad("a " + line)
            self.bad(line.replace(" ", "") + "x")

    def test_other_words(self):
        for line in ["", " ", "x", "Land 1 1 4", "LAND 1 1 4", "lands 1 1 4", "lan 1 1 4", "Undo", "undo undo",
                     "redo 1", "puts 1 1 1", "edit 1 1 1", "lift 0 0 1 1", "view", "quit", "views a 3", "drops a", "#",
                     "\u00b5", "number", "name", "land number number number", "view name number", "None", "0", "1 2 0"]:
            self.bad(line)
        self.assertTrue(issubclass(BadLine, LandError))

    def test_numbers_written_otherwise(self):
        for number in BAD_NUMBERS:
            for line in [f"land {number} 1 4", f"land 1 {number} 4", f"land 1 1 {number}", f"put {number} 2 5",
                         f"put 2 {number} 5", f"put 2 2 {number}", f"view a {number}", f"budget {number}"]:
                self.bad(line)

    def test_every_sign_as_a_number_and_a_name(self):
        desk = desk_with("land 1 1 2")
        for number in range(256):
            sign = chr(number)
            for line, good in [(f"put 0 0 {sign}", sign in "0123456789"), (f"view a {sign}", sign in "0123456789"),
                               (f"view {sign} 1", sign in "abcdefghijklmnopqrstuvwxyz")]:
                if good:
                    self.assertIn(desk.do(line).split(" ")[0], ("ok", "turned"))
                else:
                    self.refused(BadLine, {"line": line}, desk.do, line)

    def test_numbers_of_nine_figures(self):
        desk = desk_with("land 1 1 4")
        self.refused(NoPlace, {"at": (123456789, 0)}, desk.do, "put 123456789 0 1")
        self.refused(NoPlace, {"at": (0, -123456789)}, desk.do, "put 0 -123456789 1")
        self.refused(BadHeight, {"at": (0, 0), "high": -999999999}, desk.do, "put 0 0 -999999999")
        self.refused(BadView, {"wrong": -999999999}, desk.do, "view a -999999999")
        self.assertEqual(desk.do("view a 999999999"), "ok")

    def test_names_that_are_none(self):
        for name in BAD_NAMES:
            for line in [f"view {name} 3", f"drop {name}", f"show {name}"]:
                self.bad(line)
        desk = desk_with("land 1 1 2")
        for name in ["a", "z", "abcdefgh", "zzzzzzzz", "view", "budget", "none"]:
            self.assertEqual(desk.do(f"view {name} 1"), "ok")
            self.assertEqual(desk.do(f"show {name}"), "2 1 1 2 0")
            self.assertEqual(desk.do(f"drop {name}"), "ok")

    def test_no_land(self):
        for line in GOOD[1:] + ["put 99 99 5", "put 0 0 5000", "view a -3", "budget 0", "budget -1", "drop none"]:
            desk = Desk()
            self.refused(NoLand, {}, desk.do, line)
            self.assertIsNone(desk.land)
        self.assertTrue(issubclass(NoLand, LookError))
        desk = Desk()
        self.refused(BadSize, {"size": 3}, desk.do, "land 1 1 3")
        self.assertIsNone(desk.land)
        self.refused(NoLand, {}, desk.do, "show a")

    def test_no_land_keeps_no_view(self):
        desk = Desk()
        self.refused(NoLand, {}, desk.do, "view a 3")
        desk.do("land 1 1 2")
        self.refused(NoName, {"name": "a"}, desk.do, "show a")

    def test_no_name(self):
        desk = desk_with("land 1 1 4", "view a 3")
        for name in ("b", "aa", "abcdefgh"):
            self.refused(NoName, {"name": name}, desk.do, f"show {name}")
            self.refused(NoName, {"name": name}, desk.do, f"drop {name}")
        self.assertTrue(issubclass(NoName, NameFault) and issubclass(NoName, KeyError))
        self.assertEqual(desk.do("show a"), "2 1 1 4 0")

    def test_refusals_of_the_deeds(self):
        desk = desk_with("land 1 1 4", "put 2 2 5", "view a 3")
        kept, shown, tries = state(desk), desk.do("show a"), desk.land.tries
        for line, kind, values, tried in [
                ("put 5 0 1", NoPlace, {"at": (5, 0)}, 1), ("put 0 -1 1", NoPlace, {"at": (0, -1)}, 1),
                ("put -3 9 5000", NoPlace, {"at": (-3, 9)}, 1),
                ("put 4 4 1001", BadHeight, {"at": (4, 4), "high": 1001}, 1),
                ("put 1 0 -1001", BadHeight, {"at": (1, 0), "high": -1001}, 1), ("redo", NothingLeft, {}, 1),
                ("view a -1", BadView, {"wrong": -1}, 0), ("view b -7", BadView, {"wrong": -7}, 0),
                ("budget 1", TooFew, {"most": 1}, 0), ("land 1 1 5", BadSize, {"size": 5}, 0),
                ("show b", NoName, {"name": "b"}, 0), ("drop b", NoName, {"name": "b"}, 0),
                ("sit", BadLine, {"line": "sit"}, 0)]:
            self.refused(kind, values, desk.do, line)
            tries += tried
            self.assertEqual((state(desk), desk.land.tries, desk.do("show a")), (kept, tries, shown))
        self.refused(NoName, {"name": "b"}, desk.do, "show b")
        desk.do("undo")
        self.refused(NothingLeft, {}, desk.do, "undo")
        self.assertEqual(desk.land.tries, tries + 2)
        self.assertEqual(desk.do("redo").split(" ")[0], "turned")


class LandsTest(Case):
    def test_a_land_line_lets_all_views_go(self):
        desk = desk_with("land 1 1 2", "put 1 1 9", "view a 3", "view b 30")
        elder = desk.land
        rows = elder.rows()
        self.assertEqual(desk.do("land 1 1 2"), "ok")
        self.assertIsNot(desk.land, elder)
        self.assertEqual((elder.rows(), elder.edition, elder.tries), (rows, 1, 1))
        for name in "ab":
            self.refused(NoName, {"name": name}, desk.do, f"show {name}")
            self.refused(NoName, {"name": name}, desk.do, f"drop {name}")
        self.refused(NothingLeft, {}, desk.do, "undo")
        desk.do("put 0 0 5")
        self.assertEqual((elder.rows(), elder.edition, elder.tries), (rows, 1, 1))
        elder.undo()
        self.assertEqual(desk.land.height((0, 0)), 5)

    def test_the_land_changed_by_hand(self):
        desk = desk_with("land 1 1 2", "view a 3")
        desk.land.put((1, 1), 9)
        self.assertEqual(desk.do("show a"), "4 1 1 2 4")
        self.assertEqual(desk.do("budget 2"), "9/1 2")
        desk.land.put((0, 0), 1)
        desk.do("undo")
        self.assertEqual(desk.land.rows(), [[0, 0, 0], [0, 9, 0], [0, 0, 0]])
        desk.do("undo")
        self.assertEqual((desk.land, desk.do("show a")), (Land((1, 1, 2)), "2 1 1 2 0"))
        desk.land.redo()
        self.assertEqual(desk.do("show a"), "4 1 1 2 4")
        self.assertEqual(desk.land.edition, 5)

    def test_two_desks_by_turns(self):
        one, other = Desk(), Desk()
        one.do("land 1 1 2")
        self.assertIsNone(other.land)
        self.refused(NoLand, {}, other.do, "undo")
        other.do("land 1 1 4")
        one.do("view a 3")
        self.refused(NoName, {"name": "a"}, other.do, "show a")
        other.do("view a 100")
        one.do("put 1 1 50")
        other.do("put 2 2 50")
        self.assertEqual((one.do("show a"), other.do("show a")), ("4 1 1 2 4", "2 1 1 4 0"))
        other.do("drop a")
        self.assertEqual(one.do("show a"), "4 1 1 2 4")
        one.do("undo")
        self.assertEqual(other.land.height((2, 2)), 50)


if __name__ == "__main__":
    unittest.main()
