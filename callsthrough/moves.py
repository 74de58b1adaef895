"""How many calls must be moved to let one more."""

from callsthrough.chains import chain_steps
from callsthrough.errors import NoMiddle
from callsthrough.kinds import is_int_within
from callsthrough.loads import call_at
from callsthrough.places import open_pairs
from callsthrough.refits import Refits
from callsthrough.standings import all_shapes, check_doors, check_pair, check_standing


def least_moves(exchange, standing, pair):
    """Return the least number of places given up to let the call, or None."""
    letting = _letting(exchange, standing, pair)
    return None if letting is None else letting[0]


def moved(exchange, standing, pair):
    """Return a standing that lets the call and gives up the least number of places, or None."""
    letting = _letting(exchange, standing, pair)
    return None if letting is None else letting[1]


def _letting(exchange, standing, pair):
    check_standing(exchange, standing)
    check_pair(exchange, pair)
    check_doors(exchange, standing, pair)
    return Refits(exchange).letting(standing, pair)


def chain(exchange, standing, pair, p, q):
    """Return the steps (pair, middle, new middle) of the chain between p and q."""
    check_standing(exchange, standing)
    check_pair(exchange, pair)
    _check_without(exchange, standing, p, 0, pair)
    _check_without(exchange, standing, q, 1, pair)
    return chain_steps(standing, pair, p, q)


def _check_without(exchange, standing, k, side, pair):
    if not is_int_within(k, 0, exchange.middles - 1) or call_at(standing[k], side, pair[side]) is not None:
        raise NoMiddle(k)


def most_moves(exchange):
    """Return the greatest least number of places given up, over all shapes and calls."""
    most = 0
    # One object for all, since many shapes have the same calls.
    refits = Refits(exchange)
    for standing in all_shapes(exchange):
        for pair in open_pairs(exchange, standing):
            letting = refits.letting(standing, pair)
            if letting is not None:
                most = max(most, letting[0])
    return most
