"""The far end of a link: it keeps the records that come, and shows of what it wants as much as has no crack."""

from braemantle.closing import lacks, within
from braemantle.errors import BadSize, NoRoom, NotCome, NotHeld
from braemantle.lattice import is_corner, need_cut, need_place
from braemantle.mesh import Mesh
from braemantle.sending import order


class Viewer:
    """A far end with heights of all corners and records of at most so many cuts."""

    def __init__(self, plan, heights, *, room=None):
        if room is not None and room < 0:
            raise BadSize(room)
        self.plan = plan
        self.room = room
        self.records = {at: (heights[at], 0) for at in heights}
        self.wish = Mesh(plan)

    def take(self, record):
        """Keep a record that is newer than what is here of its place; tell whether it stayed."""
        at, high, edition = record
        need_place(self.plan, at)
        if self.has_come(at) and self.since(at) >= edition:
            return False
        self.records[at] = (high, edition)
        self.drop_surplus()
        return self.has_come(at)

    def drop_surplus(self):
        """Let one cut go where there are more than room, the last unwanted one in the sending order."""
        come = [at for at in self.records if not is_corner(self.plan, at)]
        if self.room is not None and len(come) > self.room:
            # There is one, as no more cuts are wanted than there is room for.
            spare = [at for at in come if not self.wish.has(at)]
            last = order(self.plan, spare)[-1]
            del self.records[last]

    def has_come(self, at):
        """Tell whether there is a record of a place."""
        return at in self.records

    def want(self, cuts):
        """Want these cuts from now on."""
        wish = Mesh(self.plan, cuts)
        many = len(wish.cuts())
        if self.room is not None and many > self.room:
            raise NoRoom(many)
        self.wish = wish

    def wanted(self):
        """Tell the wanted cuts in order."""
        return self.wish.cuts()

    def missing(self):
        """Tell the wanted cuts that have not come, in the sending order."""
        return order(self.plan, [at for at in self.wanted() if not self.has_come(at)])

    def ready(self):
        """Tell the wanted cuts that have come, in order."""
        return [at for at in self.wanted() if self.has_come(at)]

    def shown(self):
        """Tell the mesh of the greatest closed set of cuts that are wanted and have come."""
        return Mesh(self.plan, within(self.plan, self.ready()))

    def held(self, at):
        """Tell a chain from a wanted cut up to one that has not come, each next one a parent, that keeps it hidden."""
        need_cut(self.plan, at)
        if not self.wish.has(at):
            raise NotHeld(at)
        return lacks(self.plan, self.ready(), at)

    def height(self, at):
        """Tell the kept height of a place."""
        return self.kept(at)[0]

    def since(self, at):
        """Tell the edition of the kept height of a place."""
        return self.kept(at)[1]

    def kept(self, at):
        """Tell the kept height of a place and its edition."""
        need_place(self.plan, at)
        if not self.has_come(at):
            raise NotCome(at)
        return self.records[at]
