"""An exchange at work."""

from callsthrough.deeds import MOST_DEEDS
from callsthrough.errors import BadDeed, NoCall, NoRoom, Unlike
from callsthrough.kinds import is_plain_int
from callsthrough.loads import is_pair
from callsthrough.places import placed, unplaced
from callsthrough.refits import Refits
from callsthrough.standings import check_doors, check_pair, empty


class Moment:
    """All that a desk tells at one time but for its rule. It is never changed, so undo can come back to it."""

    def __init__(self, loads, places, came, counts):
        self.loads = loads
        # A dict: for the number of each call that is up its (pair, middle).
        self.places = places
        self.came = came
        # How many calls were let, how many barred, and how many moves there were.
        self.counts = counts

    def behind_let(self, loads, places, moves):
        """Return the moment behind a call that was let, and got the next number in the places."""
        let, barred, moved = self.counts
        return Moment(loads, places, self.came + 1, (let + 1, barred, moved + moves))

    def behind_barred(self):
        let, barred, moved = self.counts
        return Moment(self.loads, self.places, self.came + 1, (let, barred + 1, moved))

    def behind_end(self, n):
        pair, k = self.places[n]
        places = {number: place for number, place in self.places.items() if number != n}
        return Moment(unplaced(self.loads, pair, k), places, self.came, self.counts)


class Desk:
    """Calls that come and end by a rule, from the empty standing on."""

    def __init__(self, rule):
        self._rule = rule
        self._now = Moment(empty(rule.exchange), {}, 0, (0, 0, 0))
        self._before = []

    def __len__(self):
        return len(self._now.places)

    def __contains__(self, pair):
        return is_pair(self._rule.exchange, pair) and pair in [call for load in self._now.loads for call in load]

    @property
    def rule(self):
        return self._rule

    @property
    def let(self):
        return self._now.counts[0]

    @property
    def barred(self):
        return self._now.counts[1]

    @property
    def moved(self):
        return self._now.counts[2]

    def standing(self):
        """Return the standing."""
        return self._now.loads

    def up(self):
        """Return the list of the tuples (n, pair, middle) of the calls that are up, ascending by n."""
        return sorted([(n, pair, k) for n, (pair, k) in self._now.places.items()])

    def call(self, pair):
        """Let the call of the pair by the rule, and return its middle, or None if it is barred."""
        self._check_call(pair)
        now = self._now
        k = self._rule.pick(now.loads, pair)
        if k is None:
            self._go_on(now.behind_barred())
        else:
            self._go_on(now.behind_let(placed(now.loads, pair, k), {**now.places, now.came: (pair, k)}, 0))
        return k

    def _check_call(self, pair):
        check_pair(self._rule.exchange, pair)
        check_doors(self._rule.exchange, self._now.loads, pair)

    def _go_on(self, moment):
        self._before.append(self._now)
        self._now = moment

    def end(self, n):
        """End call number n, which must be up."""
        if not is_plain_int(n) or n not in self._now.places:
            raise NoCall(n)
        self._go_on(self._now.behind_end(n))

    def force(self, pair):
        """Let the call of the pair by the least number of moves, and return this number."""
        self._check_call(pair)
        now, exchange = self._now, self._rule.exchange
        letting = Refits(exchange).letting(now.loads, pair)
        if letting is None:
            raise NoRoom(exchange.middles)
        moves, loads = letting
        # The new call has no middle yet that it could keep.
        places = _places_behind_moves({**now.places, now.came: (pair, None)}, loads)
        self._go_on(now.behind_let(loads, places, moves))
        return moves

    def undo(self):
        """Take back the last call, end or force; return False if there is none."""
        if self._before == []:
            return False
        self._now = self._before.pop()
        return True

    def take_rule(self, rule):
        """Make another rule for the same exchange the rule of the desk."""
        if rule.exchange != self._rule.exchange:
            raise Unlike("exchange")
        self._rule = rule

    def trial(self, deeds):
        """Return what call and end would return for the deeds, one after another."""
        _check_form(deeds)
        other = Desk(self._rule)
        other._now = self._now
        return [other._done(deed) for deed in deeds]

    def watch(self, deeds):
        """Do the deeds, and yield for each what call or end returns and the standing behind it."""
        _check_form(deeds)
        for deed in list(deeds):
            k = self._done(deed)
            yield k, self.standing()

    def _done(self, deed):
        """Do a deed and return what call or end returns."""
        if deed[0] == "call":
            return self.call(deed[1])
        return self.end(deed[1])


def _check_form(deeds):
    """Raise BadDeed unless the value is a list of at most 200 tuples ("call", thing) or ("end", thing)."""
    if not isinstance(deeds, list) or len(deeds) > MOST_DEEDS:
        raise BadDeed(-1)
    for at, deed in enumerate(deeds):
        if not isinstance(deed, tuple) or len(deed) != 2 or not (deed[0] == "call" or deed[0] == "end"):
            raise BadDeed(at)


def _places_behind_moves(places, loads):
    """Return the places with the middles of the new loads; a call that can keep its middle keeps it."""
    # Which of several calls of one pair takes which new place is free.
    new = {(pair, k): True for k, load in enumerate(loads) for pair in load}
    found = {}
    for n in places:
        if places[n] in new:
            found[n] = places[n]
            del new[places[n]]
    for n in sorted(places):
        if n not in found:
            pair = places[n][0]
            k = [middle for call, middle in new if call == pair][0]
            found[n] = (pair, k)
            del new[(pair, k)]
    return found
