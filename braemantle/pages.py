"""Pages and codes: lands and meshes as texts."""

from braemantle.errors import BadCode, BadPage
from braemantle.land import HIGH, Land
from braemantle.lattice import BLOCKS, SIDES, cuts
from braemantle.mesh import Mesh

FIGURES = "0123456789abcdef"
DECIMALS = "0123456789"
MOST_FIGURES = 9


def written(numbers):
    """Tell numbers as a text, one blank between each two."""
    return " ".join([str(number) for number in numbers])


def made_of(word, signs, most):
    """Tell whether a word has one sign at least and at most so many, all of them among these signs."""
    return 1 <= len(word) <= most and all([sign in signs for sign in word])


def read_number(word):
    """Tell the number that a word writes, with at most nine figures; None where no number is written so."""
    bare = word[1:] if word.startswith("-") else word
    if not made_of(bare, DECIMALS, MOST_FIGURES):
        return None
    number = int(word)
    # Each number is written in one way alone, so noughts ahead and a minus at nought make a word none.
    return number if str(number) == word else None


def read_plan(text):
    """Tell the plan that a text writes, None where it writes none."""
    known = {written((wide, deep, side)): (wide, deep, side) for wide in BLOCKS for deep in BLOCKS for side in SIDES}
    return known.get(text)


def page(land):
    """Tell a land as a text: its plan, then its heights row by row."""
    return "\n".join([f"land {written(land.plan)}"] + [written(row) for row in land.rows()])


def read_heights(line, many):
    """Tell the heights that a line of a page writes, None where there aren't just so many of them."""
    heights = [read_number(word) for word in line.split(" ")]
    if len(heights) != many or None in heights or max(heights) > HIGH or min(heights) < -HIGH:
        return None
    return heights


def read_page(text):
    """Tell a new land with such a page."""
    head, *lines = text.split("\n")
    plan = read_plan(head[5:]) if head.startswith("land ") else None
    if plan is None:
        raise BadPage(0)
    wide, deep, side = plan
    rows = []
    for line in lines:
        heights = read_heights(line, wide * side + 1)
        if heights is None or len(rows) > deep * side:
            raise BadPage(len(rows) + 1)
        rows.append(heights)
    if len(rows) <= deep * side:
        raise BadPage(len(rows) + 1)
    return Land(plan, rows)


def coded(plan, marks):
    """Tell the code of some cuts of a plan."""
    known = {at: True for at in marks}
    total, weight = 0, 1
    for at in cuts(plan):
        if at in known:
            total += weight
        weight *= 2
    figures = FIGURES[total % 16]
    while total >= 16:
        total //= 16
        figures = FIGURES[total % 16] + figures
    return f"{written(plan)} {figures}"


def code(mesh):
    """Tell a mesh as a text: its plan, then its cuts as one number."""
    return coded(mesh.plan, mesh.cuts())


def marked(plan, figures):
    """Tell the cuts of a plan that a number stands for; some cuts or others where a sign is no figure."""
    total = 0
    for sign in figures:
        total = total * 16 + FIGURES.find(sign)
    marks = []
    for at in cuts(plan):
        if total % 2 == 1:
            marks.append(at)
        total //= 2
    return marks


def read_code(text):
    """Tell the mesh with such a code."""
    head, blank, figures = text.rpartition(" ")
    plan = read_plan(head)
    if plan is None:
        raise BadCode("the text begins with no plan")
    marks = marked(plan, figures)
    # Whatever is wrong with the figures, no set of cuts has a code with them.
    if coded(plan, marks) != text:
        raise BadCode("the text is not as a code is written")
    return Mesh(plan, marks)
