"""What calls may lead to when calls that are up may be moved."""

from callsthrough.counts import degree
from callsthrough.errors import NoRoom
from callsthrough.shapes import pairs_of
from callsthrough.standings import shapes_up_to

MOST_CONTESTED = 100


class Contest:
    """The shapes of one exchange, ascending, with the lots of those that have the same calls."""

    def __init__(self, exchange):
        if exchange.middles < degree(exchange):
            raise NoRoom(exchange.middles)
        self.exchange = exchange
        self.shapes = shapes_up_to(exchange, MOST_CONTESTED)
        self.lots = {}
        for shape in self.shapes:
            self.lots.setdefault(pairs_of(shape), []).append(shape)

    def letting(self, shape, pair):
        """Return the ascending list of the shapes that let the call of an open pair after the shape."""
        return self.lots[tuple(sorted(list(pairs_of(shape)) + [pair]))]


def least_given_up(shape, later):
    """Return the least number of places given up, over all ways to name the middles of the later shape."""
    # Equal loads may always keep their middle: if A goes to C and B to A, then A may
    # stay and B go to C, since B lacks no more calls of C than it lacks of A and A of C.
    old, new = _without_common(shape, later)
    # The least numbers for the old loads so far, by the new loads that they take, as bits.
    least = {0: 0}
    for load in old:
        further = {}
        for bits in least:
            for k, taker in enumerate(new):
                if bits & (1 << k) == 0:
                    lost = least[bits] + len([call for call in load if call not in taker])
                    more = bits | (1 << k)
                    further[more] = min(lost, further.get(more, lost))
        least = further
    return min(list(least.values()))


def _without_common(shape, later):
    old, new = [], list(later)
    for load in shape:
        if load in new:
            new.remove(load)
        else:
            old.append(load)
    return old, new
