import unittest

from braemantle.errors import BadCode, BadPage, Cracked, LandError, NothingLeft
from braemantle.land import Land
from braemantle.mesh import Mesh
from braemantle.pages import code, page, read_code, read_page
from plans import (
    PLANS, Case, closed_sets, every_cut, land_of, meshes, own_crack, places, plain, seeded, signature, some_cuts)

SMALL = [(1, 1, 2), (2, 1, 2), (1, 2, 2), (1, 1, 4), (3, 1, 4), (1, 1, 8)]
OTHER_FIGURES = ["\u0665", "\uff15", "\u0e55", "\u00b2", "\u2460"]


def own_page(land):
    wide, deep, side = land.plan
    lines = ["land " + str(wide) + " " + str(deep) + " " + str(side)]
    for y in range(deep * side + 1):
        lines.append(" ".join(str(land.height((x, y))) for x in range(wide * side + 1)))
    return "\n".join(lines)


WORDS = {str(high) for high in range(-1000, 1001)}


def own_row(text):
    """The number of the first line that could not stand there, by point 49; None where the text is a page."""
    lines = text.split("\n")
    heads = {"land {} {} {}".format(*plan): plan for plan in PLANS}
    if lines[0] not in heads:
        return 0
    wide, deep, side = heads[lines[0]]
    for number, line in enumerate(lines[1:], 1):
        words = line.split(" ")
        if number > deep * side + 1 or len(words) != wide * side + 1 or not set(words) <= WORDS:
            return number
    return len(lines) if len(lines) < deep * side + 2 else None


class PageTest(Case):
    def check(self, text):
        """A text is refused with its row, or tells the land with just this page."""
        row = own_row(text)
        if row is None:
            self.assertEqual(page(read_page(text)), text)
        else:
            self.refused(BadPage, {"row": row}, read_page, text)
        return row

    def test_there_and_back(self):
        for plan in PLANS:
            for land in (Land(plan), land_of(plan, "back"), land_of(plan, "low", 3)):
                text = page(land)
                self.assertEqual(text, own_page(land))
                told = read_page(text)
                self.assertEqual((told, told.plan, told.rows()), (land, plan, land.rows()))
                self.assertEqual((told.edition, told.tries), (0, 0))
                self.assertIsNone(own_row(text))

    def test_examples(self):
        self.assertEqual(page(Land((1, 1, 2))), "land 1 1 2\n0 0 0\n0 0 0\n0 0 0")
        land = Land((1, 1, 2), [[1, -2, 3], [1000, 0, -1000], [7, 8, 99]])
        self.assertEqual(page(land), "land 1 1 2\n1 -2 3\n1000 0 -1000\n7 8 99")
        self.assertEqual(read_page("land 1 1 2\n1 -2 3\n1000 0 -1000\n7 8 99"), land)

    def test_read_lands_are_new(self):
        land = land_of((1, 1, 4), "new", 20)
        land.put((2, 2), 900)
        land.lift((0, 0), (2, 2))
        land.undo()
        self.assertEqual(page(land), own_page(land))
        told = read_page(page(land))
        self.assertEqual((told.edition, told.tries, {told.since(at) for at in places(told.plan)}), (0, 0, {0}))
        self.refused(NothingLeft, {}, told.undo)
        self.refused(NothingLeft, {}, told.redo)
        told.put((0, 0), 5)
        self.assertEqual((land.edition, land.tries, land.height((2, 2))), (3, 3, 900))
        self.assertNotEqual(told, land)
        land.redo()
        self.assertEqual(page(read_page(page(land))), own_page(land))

    def test_signs_put_in_taken_out_changed(self):
        seen = set()
        for plan in SMALL:
            chance = seeded("signs", plan)
            text = page(land_of(plan, "signs", 60))
            for number in range(len(text) + 1) if len(text) < 90 else range(0, len(text) + 1, 7):
                for sign in " \n0159-+_.,ax\t\r" + chance.choice(OTHER_FIGURES):
                    seen.add(self.check(text[:number] + sign + text[number:]))
                    seen.add(self.check(text[:number] + sign + text[number + 1:]))
                seen.add(self.check(text[:number] + text[number + 1:]))
                seen.add(self.check(text[:number] + text[number + 2:]))
        self.assertLessEqual({None, 0, 1, 2, 3, 4}, seen)

    def test_numbers_written_otherwise(self):
        for word in ["+1", "01", "-01", "-0", "00", "", "-", "--1", "1_0", "1.0", "1e2", "0x1", "1-", "- 1", " 1", "1 ",
                     "1001", "-1001", "9999", "123456789", "1234567890", "9" * 5000, "-" + "9" * 5000, "\t1", "1\t",
                     "1\r", "one", "None", "True", "1,", "\u22121", "\u00a01", "1\u00a0"] + OTHER_FIGURES:
            for number in range(9):
                words = ["5"] * 9
                words[number] = word
                rows = [" ".join(words[3 * k:3 * k + 3]) for k in range(3)]
                self.refused(BadPage, {"row": number // 3 + 1}, read_page, "\n".join(["land 1 1 2"] + rows))
        for number in range(256):
            for word in (chr(number), "1" + chr(number), "-" + chr(number)):
                self.check("land 1 1 2\n5 5 5\n5 " + word + " 5\n5 5 5")
        for word in ["1000", "-1000", "0", "-1", "999", "10"]:
            self.assertIsNone(self.check("land 1 1 2\n5 5 5\n5 " + word + " 5\n5 5 5"))

    def test_first_lines(self):
        rows = "\n0 0 0\n0 0 0\n0 0 0"
        for head in ["", "land", "land ", "land 1 1", "land 1 1 2 ", " land 1 1 2", "land  1 1 2", "land 1  1 2",
                     "Land 1 1 2", "land 1 1 3", "land 0 1 2", "land 1 4 2", "land 1 1 16", "land 1 1 1", "land +1 1 2",
                     "land 1 1 02", "land 1 1 2 0", "land -1 1 2", "lands 1 1 2", "1 1 2", "land 1 1 \uff12",
                     "land 1 1 2\r", "land\t1 1 2", "land 1 1 2.", "0 0 0", "land 1 1 " + "2" * 5000, "land1 1 2",
                     "sand 1 1 2"]:
            self.refused(BadPage, {"row": 0}, read_page, head + rows)
            self.refused(BadPage, {"row": 0}, read_page, head)

    def test_another_plan_at_the_front(self):
        for plan in SMALL:
            rest = page(land_of(plan, "front")).split("\n")[1:]
            for other in PLANS:
                self.check("\n".join(["land {} {} {}".format(*other)] + rest))

    def test_lines_out_twice_exchanged_too_many(self):
        for plan in SMALL:
            lines = page(land_of(plan, "lines")).split("\n")
            for number in range(len(lines)):
                self.check("\n".join(lines[:number] + lines[number + 1:]))
                self.check("\n".join(lines[:number] + lines[number:number + 1] + lines[number:]))
                self.check("\n".join(lines[:number]))
                for other in range(number):
                    changed = list(lines)
                    changed[number], changed[other] = changed[other], changed[number]
                    self.check("\n".join(changed))
                changed = lines[:number] + [""] + lines[number:]
                self.check("\n".join(changed))
            self.refused(BadPage, {"row": len(lines)}, read_page, "\n".join(lines + lines[-1:]))
            self.refused(BadPage, {"row": len(lines)}, read_page, "\n".join(lines + lines[-1:] * 3))
            self.refused(BadPage, {"row": len(lines)}, read_page, "\n".join(lines) + "\n")
            self.refused(BadPage, {"row": len(lines)}, read_page, "\n".join(lines) + "\n\n")
            self.refused(BadPage, {"row": len(lines) - 1}, read_page, "\n".join(lines[:-1]))
            self.refused(BadPage, {"row": len(lines) - 1}, read_page, "\n".join(lines[:-1]) + "\n")

    def test_short_texts(self):
        for text, row in [("", 0), ("\n", 0), ("land 1 1 2", 1), ("land 1 1 2\n", 1), ("land 1 1 2\n\n", 1),
                          ("land 1 1 2\n0 0 0", 2), ("land 1 1 2\n0 0 0\n", 2), ("land 1 1 2\n0 0 0\n0 0", 2),
                          ("land 1 1 2\n0 0 0\n0 0 0", 3), ("land 1 1 2\n0 0 0\n0 0 0\n", 3),
                          ("land 1 1 2\n0 0 0 0\n0 0\n0 0 0", 1), ("land 1 1 2\n0 0 0\n0 0 0\n0 0 1001", 3),
                          ("land 1 1 2\n0 0 0\n0 0 0\n0 0 0\n", 4), ("land 1 1 2\n0 0 0\n0 0 0\n0 0 0\nx\n0", 4),
                          ("land 1 1 2\n0 0 0\nx\n0 0 0\nx\n0", 2)]:
            self.refused(BadPage, {"row": row}, read_page, text)
            self.assertEqual(own_row(text), row)
        self.assertTrue(issubclass(BadPage, LandError))

    def test_other_line_ends(self):
        for end, row in [("\r\n", 0), ("\r", 0), ("\n\r", 1), ("\x0b", 0), ("\x0c", 0), ("\u2028", 0), ("\x85", 0)]:
            text = page(Land((1, 1, 2))).replace("\n", end)
            self.refused(BadPage, {"row": row}, read_page, text)

    def test_interface(self):
        self.assertEqual(signature(page), plain("land"))
        self.assertEqual(signature(read_page), plain("text"))
        self.assertEqual(signature(code), plain("mesh"))
        self.assertEqual(signature(read_code), plain("text"))

    def test_by_name(self):
        land, mesh = land_of((1, 1, 2), "names"), Mesh((1, 1, 4), [(2, 2)])
        self.assertEqual(read_page(text=page(land=land)), land)
        self.assertEqual(read_code(text=code(mesh=mesh)), mesh)

    def test_land_stays(self):
        land = land_of((1, 1, 4), "stays")
        rows = land.rows()
        page(land)
        self.assertEqual((land.rows(), land.edition, land.tries), (rows, 0, 0))


def own_code(plan, cuts):
    total = sum(2 ** number for number, at in enumerate(every_cut(plan)) if at in set(cuts))
    return "{} {} {} {:x}".format(*plan, total)


class CodeTest(Case):
    def test_there_and_back(self):
        for plan in PLANS:
            for mesh in meshes(plan, 4, "code"):
                text = code(mesh)
                self.assertEqual(text, own_code(plan, mesh.cuts()))
                told = read_code(text)
                self.assertIsInstance(told, Mesh)
                self.assertEqual((told, told.plan, told.cuts()), (mesh, plan, mesh.cuts()))

    def test_examples(self):
        # The cuts of a block of side 2 in order: (0, 1), (1, 0), (1, 1), (1, 2), (2, 1).
        for cuts, figures in [([], "0"), ([(1, 1)], "4"), ([(1, 1), (0, 1)], "5"), ([(1, 1), (2, 1)], "14"),
                              (every_cut((1, 1, 2)), "1f"), ([(1, 1), (1, 2)], "c")]:
            self.assertEqual(code(Mesh((1, 1, 2), cuts)), "1 1 2 " + figures)
            self.assertEqual(read_code("1 1 2 " + figures).cuts(), sorted(cuts))
        self.assertEqual(code(Mesh((1, 1, 4))), "1 1 4 0")

    def test_every_number_of_a_small_block(self):
        for total in range(2 ** 6):
            text = "1 1 2 {:x}".format(total)
            self.check((1, 1, 2), total, text)

    def check(self, plan, total, text):
        every = every_cut(plan)
        cuts = [at for number, at in enumerate(every) if total >> number & 1]
        if total >= 2 ** len(every):
            self.refused(BadCode, {}, read_code, text)
        elif own_crack(plan, cuts) is not None:
            at, other = own_crack(plan, cuts)
            self.refused(Cracked, {"at": at, "other": other}, read_code, text)
        else:
            self.assertEqual(read_code(text), Mesh(plan, cuts))

    def test_sets_that_are_not_closed(self):
        refused = 0
        for plan in PLANS:
            for cuts in some_cuts(plan, 5, seeded("cracked", plan)):
                if own_crack(plan, cuts) is not None:
                    at, other = own_crack(plan, cuts)
                    self.refused(Cracked, {"at": at, "other": other}, read_code, own_code(plan, cuts))
                    refused += 1
        self.assertGreater(refused, 50)
        self.assertTrue(issubclass(Cracked, LandError))

    def test_cuts_that_the_plan_has_not(self):
        for plan in PLANS:
            many = len(every_cut(plan))
            head = "{} {} {} ".format(*plan)
            one = 2 ** many
            for total in (one, one + one // 2, 2 * one, 2 * one - 1, 16 * one, 512 * one - 1):
                self.refused(BadCode, {}, read_code, head + "{:x}".format(total))
            self.assertEqual(read_code(head + "{:x}".format(2 ** many - 1)), Mesh(plan, every_cut(plan)))

    def test_noughts_and_capital_letters(self):
        for plan in PLANS:
            for cuts in closed_sets(plan, 2, seeded("noughts", plan)):
                head, figures = own_code(plan, cuts).rsplit(" ", 1)
                for sign in ("0", "000", "0x", "+", "-", " ", "_", "g"):
                    self.refused(BadCode, {}, read_code, head + " " + sign + figures)
                for wrong in (figures + " ", figures + "\n", figures + "g", figures + "_0", ""):
                    self.refused(BadCode, {}, read_code, head + " " + wrong)
                if figures.upper() != figures:
                    self.refused(BadCode, {}, read_code, head + " " + figures.upper())
        self.assertTrue(issubclass(BadCode, LandError))

    def test_texts_that_are_none(self):
        for text in ["", " ", "0", "1 1 2", "1 1 2 ", "1 1 2  0", " 1 1 2 0", "1  1 2 0", "1 1 2 0 ", "1 1 2 0 0",
                     "1 1 2 0\n", "1 1 2\n0", "1 1 2\t0", "1 1 3 0", "0 1 2 0", "4 1 2 0", "1 1 16 0", "1 0 2 0",
                     "01 1 2 0", "+1 1 2 0", "1 1 02 0", "-1 1 2 0", "1 1 2 \uff10", "\uff11 1 2 0", "1 1 2 \u0664",
                     "land 1 1 2 0", "1 1 2 z", "1 1 2 G", "1 1 2 -", "1 1 2 -0", "1 1 2 0.0", "1 1 2 4,", "1 2 0",
                     "1 1 2 " + "f" * 5000, "1 1 2 " + "0" * 5000, "9" * 5000 + " 1 2 0", "1 1 2 00", "a 1 2 0",
                     "1 1 2 gg", "1 1 2 3g", "1 1 2 g4", "1 1 2 1 4", "1 1 1 0"]:
            self.refused(BadCode, {}, read_code, text)

    def test_signs_changed(self):
        for plan in SMALL:
            for cuts in closed_sets(plan, 2, seeded("changed", plan)):
                text = own_code(plan, cuts)
                for number in range(len(text) + 1):
                    for sign in "0123456789abcdefgF -":
                        for changed in (text[:number] + sign + text[number:], text[:number] + sign + text[number + 1:],
                                        text[:number] + text[number + 1:]):
                            self.as_it_should(changed)

    def as_it_should(self, text):
        words = text.split(" ")
        plans = {("{} {} {}".format(*plan)): plan for plan in PLANS}
        plan = plans.get(" ".join(words[:3]))
        figures = words[3] if len(words) == 4 else ""
        plain_figures = figures and set(figures) <= set("0123456789abcdef") and (figures == "0" or figures[0] != "0")
        if plan is None or not plain_figures:
            self.refused(BadCode, {}, read_code, text)
        else:
            self.check(plan, int(figures, 16), text)


if __name__ == "__main__":
    unittest.main()
