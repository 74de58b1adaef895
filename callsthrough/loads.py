"""Pairs and loads: a call's two switches, and what one middle serves."""

from callsthrough.kinds import is_int_within


def is_pair(exchange, thing):
    """Tell whether any value is a pair of the exchange."""
    if not isinstance(thing, tuple) or len(thing) != 2:
        return False
    i, o = thing
    return is_int_within(i, 0, len(exchange.ins) - 1) and is_int_within(o, 0, len(exchange.outs) - 1)


def is_load(exchange, thing):
    """Tell whether any value is a load of the exchange."""
    if not isinstance(thing, tuple) or len(thing) > len(exchange.ins):
        return False
    if not all([is_pair(exchange, pair) for pair in thing]):
        return False
    ins = [i for i, o in thing]
    outs = [o for i, o in thing]
    # Pairs with different input switches ascend just if these switches do.
    return ins == sorted(set(ins)) and len(outs) == len(set(outs))


def is_free(load, pair):
    """Tell whether the load has neither switch of the pair."""
    return all([call[0] != pair[0] and call[1] != pair[1] for call in load])


def with_pair(load, pair):
    return tuple(sorted([*load, pair]))


def without_pair(load, pair):
    return tuple([call for call in load if call != pair])


def call_at(load, side, switch):
    """Return the load's call at an input switch (side 0) or output switch (side 1), or None."""
    for call in load:
        if call[side] == switch:
            return call
    return None


def loads_out_of(pairs, needed_ins, needed_outs):
    """Return the ascending list of the loads out of these pairs that have all the needed switches."""
    found = [()]
    # One input switch after another, so that each longer load ascends.
    for i in sorted(set([pair[0] for pair in pairs])):
        row = [pair for pair in pairs if pair[0] == i]
        longer = [load + (pair,) for load in found for pair in row if is_free(load, pair)]
        found = longer if i in needed_ins else found + longer
    return sorted([load for load in found if _has_outs(load, needed_outs)])


def _has_outs(load, outs):
    return all([call_at(load, 1, o) is not None for o in outs])
