"""Exchanges of three stages: input switches, middles, output switches."""

from callsthrough.errors import BadExchange
from callsthrough.kinds import is_int_within

MOST_SWITCHES = 4
MOST_DOORS = 4
MOST_MIDDLES = 7


def _is_side(value):
    if not isinstance(value, tuple) or not 1 <= len(value) <= MOST_SWITCHES:
        return False
    return all([is_int_within(doors, 1, MOST_DOORS) for doors in value])


class Exchange:
    """The doors of the input and output switches, and the number of middles."""

    def __init__(self, ins, outs, middles):
        if not _is_side(ins):
            raise BadExchange("ins")
        if not _is_side(outs):
            raise BadExchange("outs")
        if not is_int_within(middles, 1, MOST_MIDDLES):
            raise BadExchange("middles")
        self.ins = ins
        self.outs = outs
        self.middles = middles

    def __eq__(self, other):
        return (isinstance(other, Exchange) and self.ins == other.ins and self.outs == other.outs
                and self.middles == other.middles)

    def with_middles(self, middles):
        """Return the same exchange with another number of middles."""
        return Exchange(self.ins, self.outs, middles)

    def turned(self):
        """Return the exchange with its input and output switches exchanged."""
        return Exchange(self.outs, self.ins, self.middles)

    def pairs(self):
        """Return the ascending list of all pairs (input switch, output switch)."""
        return [(i, o) for i in range(len(self.ins)) for o in range(len(self.outs))]

    @classmethod
    def square(cls, size, doors, middles):
        """Return the exchange with `size` switches of `doors` doors on each side."""
        if not is_int_within(size, 1, MOST_SWITCHES):
            raise BadExchange("size")
        if not is_int_within(doors, 1, MOST_DOORS):
            raise BadExchange("doors")
        side = (doors,) * size
        return cls(side, side, middles)
