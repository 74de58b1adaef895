"""Two rules on the same deeds: whether one bars a call that the other lets."""

from callsthrough.errors import Unlike
from callsthrough.places import open_pairs
from callsthrough.reach import first_row, lengths_to, states_that_come

MOST_COUPLES = 2000


def parted(one, other):
    """Return the first of the shortest rows at whose end just one rule bars a call, and which; or None."""
    if one.exchange != other.exchange:
        raise Unlike("exchange")
    # A call that both bar is up for neither, so it leads nowhere that a row without it does not lead, too.
    after = states_that_come((), lambda couple: _next_couples(one, other, couple), MOST_COUPLES)
    goals = [couple for couple in after if _parting_calls(one, other, couple) != []]
    lengths = lengths_to(goals, after)
    if () not in lengths:
        return None
    row, goal = first_row((), lengths, lambda earlier: _calls_let(one, other, earlier), _without_place)
    pair, who = _parting_calls(one, other, goal)[0]
    return row + [("call", pair)], who


def _next_couples(one, other, couple):
    found = [later for _, _, later in _calls_let(one, other, couple)]
    return found + [_without_place(couple, place) for place in couple]


def _without_place(couple, place):
    return tuple([kept for kept in couple if kept != place])


def _calls_let(one, other, couple):
    """Return the list of the tuples (pair, place, next couple) of the calls that both rules let, ascending by pair."""
    found = []
    for pair, k, m in _picks(one, other, couple):
        if k is not None and m is not None:
            place = (pair, k, m)
            found.append((pair, place, tuple(sorted([*couple, place]))))
    return found


def _parting_calls(one, other, couple):
    """Return the list of the tuples (pair, who) of the calls that just one rule bars, ascending by pair."""
    picks = _picks(one, other, couple)
    return [(pair, 0 if k is None else 1) for pair, k, m in picks if (k is None) != (m is None)]


def _picks(one, other, couple):
    """Return the list of the tuples (pair, middle or None by one, middle or None by other) of the open pairs."""
    standing = _standing_of(one.exchange, [(pair, k) for pair, k, _ in couple])
    others = _standing_of(one.exchange, [(pair, m) for pair, _, m in couple])
    pairs = open_pairs(one.exchange, standing)
    return [(pair, one.pick(standing, pair), other.pick(others, pair)) for pair in pairs]


def _standing_of(exchange, places):
    """Return the standing with these places, which ascend."""
    return tuple([tuple([pair for pair, at in places if at == k]) for k in range(exchange.middles)])
