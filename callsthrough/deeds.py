"""Rows of deeds: calls that come and end."""

from callsthrough.errors import BadDeed
from callsthrough.kinds import is_plain_int
from callsthrough.loads import is_pair

MOST_DEEDS = 200


class Track:
    """The free doors while calls come and end, as if every call were let."""

    def __init__(self, exchange):
        self.exchange = exchange
        self.ins = list(exchange.ins)
        self.outs = list(exchange.outs)
        self.going = {}
        self.came = 0

    def take(self, deed):
        """Do the deed and return True, or return False if the value is no deed that is right here."""
        if not isinstance(deed, tuple) or len(deed) != 2:
            return False
        word, thing = deed
        if word == "call":
            return self.take_call(thing)
        return word == "end" and self.take_end(thing)

    def take_call(self, pair):
        if not is_pair(self.exchange, pair) or self.ins[pair[0]] == 0 or self.outs[pair[1]] == 0:
            return False
        self.ins[pair[0]] -= 1
        self.outs[pair[1]] -= 1
        self.going[self.came] = pair
        self.came += 1
        return True

    def take_end(self, n):
        if not is_plain_int(n) or n not in self.going:
            return False
        i, o = self.going.pop(n)
        self.ins[i] += 1
        self.outs[o] += 1
        return True


def deed_fault(exchange, deeds):
    """Return None for a right row, -1 for no list of the right length, else the first bad index."""
    if not isinstance(deeds, list) or len(deeds) > MOST_DEEDS:
        return -1
    track = Track(exchange)
    for at, deed in enumerate(deeds):
        if not track.take(deed):
            return at
    return None


def check_deeds(exchange, deeds):
    at = deed_fault(exchange, deeds)
    if at is not None:
        raise BadDeed(at)
