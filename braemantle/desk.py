"""The desk: a land and views by names, led by lines of words."""

from braemantle.errors import BadLine, NoLand, NoName
from braemantle.land import Land
from braemantle.lattice import planned
from braemantle.least import budget, least
from braemantle.pages import code, made_of, read_number
from braemantle.views import View

# What stands behind the first word of a line.
FORMS = {
    "land": ("number", "number", "number"),
    "put": ("number", "number", "number"),
    "undo": (),
    "redo": (),
    "view": ("name", "number"),
    "drop": ("name",),
    "show": ("name",),
    "budget": ("number",),
}
LETTERS = "abcdefghijklmnopqrstuvwxyz"
LONGEST_NAME = 8


def read_name(word):
    """Tell a word that is a name, None for any other one."""
    return word if made_of(word, LETTERS, LONGEST_NAME) else None


def read_line(line):
    """Tell the first word of a line, and a list of the names and numbers behind it."""
    word, *words = line.split(" ")
    if word not in FORMS or len(words) != len(FORMS[word]):
        raise BadLine(line)
    things = [read_name(each) if form == "name" else read_number(each) for form, each in zip(FORMS[word], words)]
    if None in things:
        raise BadLine(line)
    return (word, things)


class Desk:
    """A land, or none at the beginning, and views by names."""

    def __init__(self):
        self.land = None
        self.views = {}

    def do(self, line):
        """Do what a line says and tell a text."""
        word, things = read_line(line)
        if word == "land":
            wide, deep, side = things
            self.land = Land(planned(wide, deep, side=side))
            self.views = {}
            return "ok"
        if self.land is None:
            raise NoLand("there is no land yet")
        if word in ("drop", "show") and things[0] not in self.views:
            raise NoName(things[0])
        if word in ("view", "drop"):
            return self.keep(word, things)
        if word in ("show", "budget"):
            return self.picture(word, things[0])
        return f"turned {len(self.turned(word, things))}"

    def keep(self, word, things):
        """Do a line that changes the views."""
        if word == "view":
            self.views[things[0]] = View(things[1])
        else:
            del self.views[things[0]]
        return "ok"

    def picture(self, word, thing):
        """Do a line that asks for a mesh."""
        if word == "show":
            mesh = least(self.land, self.views[thing])
            return f"{len(mesh)} {code(mesh)}"
        (over, under), mesh, below = budget(self.land, most=thing)
        return f"{over}/{under} {len(mesh)}"

    def turned(self, word, things):
        """Do a line that changes the land; tell the triangles that the deed tells."""
        if word == "put":
            x, y, high = things
            return self.land.put((x, y), high)
        if word == "undo":
            return self.land.undo()
        return self.land.redo()
