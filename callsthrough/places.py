"""Standings and their places, without any check of what is passed."""

from callsthrough.loads import is_free, with_pair, without_pair


def doors_left(exchange, standing):
    """Return two new lists: each switch's doors less its calls."""
    ins, outs = list(exchange.ins), list(exchange.outs)
    for load in standing:
        for i, o in load:
            ins[i] -= 1
            outs[o] -= 1
    return ins, outs


def open_pairs(exchange, standing):
    """Return the ascending list of the pairs with a free door at both switches."""
    ins, outs = doors_left(exchange, standing)
    return [(i, o) for i, o in exchange.pairs() if ins[i] > 0 and outs[o] > 0]


def free_for(standing, pair):
    """Return the ascending list of the middles that serve neither switch of the pair."""
    return [k for k, load in enumerate(standing) if is_free(load, pair)]


def placed(standing, pair, k):
    """Return the standing with the pair added to load k."""
    return standing[:k] + (with_pair(standing[k], pair),) + standing[k + 1:]


def unplaced(standing, pair, k):
    """Return the standing with the pair taken out of load k."""
    return standing[:k] + (without_pair(standing[k], pair),) + standing[k + 1:]


def places(standing):
    """Return the ascending list of the tuples (pair, middle)."""
    return sorted([(pair, k) for k, load in enumerate(standing) for pair in load])
