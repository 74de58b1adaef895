"""How many middles are enough, by the doors alone."""

from callsthrough.chains import after_steps, chain_steps
from callsthrough.errors import BadCalls
from callsthrough.loads import call_at, is_pair
from callsthrough.places import free_for, placed
from callsthrough.standings import check_pair, empty


def busiest(exchange, pair):
    """Return how many middles can be busy for the pair while it has free doors."""
    check_pair(exchange, pair)
    return len(_busy_calls(exchange, pair))


def _busy_calls(exchange, pair):
    """Return the most calls that leave the pair a free door and keep a middle each from it."""
    i, o = pair
    in_doors, out_doors = exchange.ins[i] - 1, exchange.outs[o] - 1
    leaving = [(i, other) for other, doors in enumerate(exchange.outs) if other != o for _ in range(doors)]
    coming = [(other, o) for other, doors in enumerate(exchange.ins) if other != i for _ in range(doors)]
    leaving, coming = leaving[:in_doors], coming[:out_doors]
    # A call of the pair itself takes a door of both switches for one middle, so it comes last.
    both = min(in_doors - len(leaving), out_doors - len(coming))
    return leaving + coming + [pair] * both


def strict(exchange):
    """Return the least number of middles with which no standing bars a call."""
    return max([busiest(exchange, pair) for pair in exchange.pairs()]) + 1


def barring(exchange):
    """Return a tuple (standing, pair) such that the standing bars the pair, or None."""
    for pair in exchange.pairs():
        busy = _busy_calls(exchange, pair)[:exchange.middles]
        if len(busy) == exchange.middles:
            return tuple([(call,) for call in busy]), pair
    return None


def degree(exchange):
    """Return the least number of middles with which all calls within the doors can stand."""
    all_ins, all_outs = sum(exchange.ins), sum(exchange.outs)
    return max([min(doors, all_outs) for doors in exchange.ins] + [min(doors, all_ins) for doors in exchange.outs])


def arranged(exchange, pairs):
    """Return a standing with just these calls, or None."""
    at = _calls_fault(exchange, pairs)
    if at is not None:
        raise BadCalls(at)
    standing = empty(exchange)
    for pair in pairs:
        standing = _with_room_for(standing, pair)
        if standing is None:
            return None
        standing = placed(standing, pair, free_for(standing, pair)[0])
    return standing


def _calls_fault(exchange, pairs):
    if not isinstance(pairs, list):
        return -1
    ins, outs = list(exchange.ins), list(exchange.outs)
    for at, pair in enumerate(pairs):
        if not is_pair(exchange, pair) or ins[pair[0]] == 0 or outs[pair[1]] == 0:
            return at
        ins[pair[0]] -= 1
        outs[pair[1]] -= 1
    return None


def _with_room_for(standing, pair):
    """Return a standing with the same calls and a free middle for the pair, or None."""
    if free_for(standing, pair) != []:
        return standing
    without_in = [k for k, load in enumerate(standing) if call_at(load, 0, pair[0]) is None]
    without_out = [k for k, load in enumerate(standing) if call_at(load, 1, pair[1]) is None]
    if without_in == [] or without_out == []:
        return None
    return after_steps(standing, chain_steps(standing, pair, without_in[0], without_out[0]))
