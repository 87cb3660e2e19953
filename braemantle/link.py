"""A bad link: packets with records of a land, which may be doubled, lost, and brought in any order."""

from braemantle.errors import NoPacket
from braemantle.lattice import corners, need_same
from braemantle.sending import order


class Link:
    """A link out of a land, with the packets that are in the air."""

    def __init__(self, land):
        self.land = land
        self.packets = {}
        self.last = 0

    def send(self, at):
        """Put a packet with the place's record of this moment into the air; tell its number."""
        return self.launch((at, self.land.height(at), self.land.since(at)))

    def launch(self, record):
        """Put a packet with a record into the air; tell its number."""
        self.last += 1
        self.packets[self.last] = record
        return self.last

    def double(self, number):
        """Put a packet with the same record into the air; tell its number."""
        return self.launch(self.carried(number))

    def lose(self, number):
        """Take a packet out of the air."""
        self.carried(number)
        del self.packets[number]

    def bring(self, number, viewer):
        """Take a packet out of the air and hand its record to a viewer; tell what the viewer tells of it."""
        record = self.carried(number)
        need_same(self.land.plan, viewer.plan)
        del self.packets[number]
        return viewer.take(record)

    def carried(self, number):
        """Tell the record of a packet; refuse a number that no packet in the air has."""
        if number not in self.packets:
            raise NoPacket(number)
        return self.packets[number]

    def air(self):
        """Tell the numbers of the packets in the air, rising."""
        return sorted(self.packets)

    def stale(self, viewer):
        """Tell the places whose record a viewer should get: corners in order, then wanted cuts in the sending order."""
        need_same(self.land.plan, viewer.plan)
        useful = corners(self.land.plan) + order(self.land.plan, viewer.wanted())
        return [at for at in useful if not viewer.has_come(at) or viewer.since(at) < self.land.since(at)]

    def again(self, viewer):
        """Send all that a viewer should get, in that order; tell the numbers."""
        return [self.send(at) for at in self.stale(viewer)]
