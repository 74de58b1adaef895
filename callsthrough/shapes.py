"""Shapes: what a call or an end leads to, without any check of the shapes that are passed."""

from callsthrough.loads import is_load, is_pair
from callsthrough.places import free_for, open_pairs, placed, places, unplaced


def next_shapes(shape, pair):
    """Return a dict: for the load of each free middle the shape that has the pair added to it."""
    return {shape[k]: tuple(sorted(placed(shape, pair, k))) for k in free_for(shape, pair)}


def shapes_behind_ends(shape):
    """Return a dict: for each end (pair, load), ascending, the shape behind it."""
    found = {}
    # Middles with equal loads stand side by side, so the loads of a pair ascend, too.
    for pair, k in places(shape):
        found[(pair, shape[k])] = tuple(sorted(unplaced(shape, pair, k)))
    return found


def is_move(exchange, shape, thing):
    """Tell whether any value is ("call", pair) with an open pair or ("end", pair, load) with an end of the shape."""
    if not isinstance(thing, tuple):
        return False
    if len(thing) == 2:
        return thing[0] == "call" and is_pair(exchange, thing[1]) and thing[1] in open_pairs(exchange, shape)
    return len(thing) == 3 and thing[0] == "end" and _is_end(exchange, shape, thing[1:])


def _is_end(exchange, shape, end):
    return is_pair(exchange, end[0]) and is_load(exchange, end[1]) and end in shapes_behind_ends(shape)


def pairs_of(shape):
    """Return the ascending tuple of the pairs of all loads, each pair as often as it stands."""
    return tuple(sorted([pair for load in shape for pair in load]))


def added_pair(shape, later):
    """Return the pair p if the calls of `later` are the calls of the shape and p, otherwise None."""
    rest = list(pairs_of(later))
    for pair in pairs_of(shape):
        if pair not in rest:
            return None
        rest.remove(pair)
    return rest[0] if len(rest) == 1 else None
