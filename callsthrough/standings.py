"""Standings: which middle serves which calls, and their shapes."""

from callsthrough.errors import NoCall, NoDoor, NoMiddle, NoPair, NoStanding, TooMany
from callsthrough.kinds import is_int_within, is_plain_int
from callsthrough.loads import is_load, is_pair, loads_out_of
from callsthrough.places import doors_left, free_for, open_pairs, placed, unplaced

MOST_SHAPES = 1000


def is_standing(exchange, thing):
    """Tell whether any value is a standing of the exchange."""
    if not isinstance(thing, tuple) or len(thing) != exchange.middles:
        return False
    if not all([is_load(exchange, load) for load in thing]):
        return False
    ins, outs = doors_left(exchange, thing)
    return min(ins) >= 0 and min(outs) >= 0


def empty(exchange):
    """Return the standing without calls."""
    return ((),) * exchange.middles


def check_standing(exchange, standing):
    if not is_standing(exchange, standing):
        raise NoStanding(standing)


def check_pair(exchange, pair):
    if not is_pair(exchange, pair):
        raise NoPair(pair)


def check_doors(exchange, standing, pair):
    ins, outs = doors_left(exchange, standing)
    if ins[pair[0]] == 0:
        raise NoDoor("in")
    if outs[pair[1]] == 0:
        raise NoDoor("out")


def calls(exchange, standing):
    """Return the ascending list of the pairs of all loads."""
    check_standing(exchange, standing)
    return sorted([pair for load in standing for pair in load])


def free_doors(exchange, standing):
    """Return the free doors of the input switches and of the output switches."""
    check_standing(exchange, standing)
    return doors_left(exchange, standing)


def free_middles(exchange, standing, pair):
    """Return the ascending list of the middles that serve neither switch of the pair."""
    check_standing(exchange, standing)
    check_pair(exchange, pair)
    return free_for(standing, pair)


def barred(exchange, standing, pair):
    """Tell whether the pair has its doors but no middle."""
    check_standing(exchange, standing)
    check_pair(exchange, pair)
    return pair in open_pairs(exchange, standing) and free_for(standing, pair) == []


def with_call(exchange, standing, pair, k):
    """Return the standing with the pair added to load k."""
    check_standing(exchange, standing)
    check_pair(exchange, pair)
    check_doors(exchange, standing, pair)
    if not is_plain_int(k) or k not in free_for(standing, pair):
        raise NoMiddle(k)
    return placed(standing, pair, k)


def without_call(exchange, standing, pair, k):
    """Return the standing without the place of the pair in load k."""
    check_standing(exchange, standing)
    check_pair(exchange, pair)
    if not is_int_within(k, 0, exchange.middles - 1):
        raise NoMiddle(k)
    if pair not in standing[k]:
        raise NoCall(pair)
    return unplaced(standing, pair, k)


def is_shape(exchange, thing):
    """Tell whether any value is a shape of the exchange."""
    return is_standing(exchange, thing) and list(thing) == sorted(thing)


def shape(exchange, standing):
    """Return the loads of the standing in ascending order."""
    check_standing(exchange, standing)
    return tuple(sorted(standing))


def all_shapes(exchange):
    """Return the ascending list of all shapes."""
    return shapes_up_to(exchange, MOST_SHAPES)


def shapes_up_to(exchange, most):
    """Return the ascending list of all shapes, or raise TooMany if there are more than `most`."""
    found = []
    busy_loads = loads_out_of(exchange.pairs(), [], [])[1:]
    _add_lots((), doors_left(exchange, ()), busy_loads, exchange.middles, found, most)
    # A load without calls comes before all others.
    return sorted([((),) * (exchange.middles - len(lot)) + lot for lot in found])


def check_number_of_shapes(exchange):
    """Raise TooMany if the exchange has more than 1000 shapes."""
    shapes_up_to(exchange, MOST_SHAPES)


def _add_lots(lot, doors, loads, left, found, most):
    """Add to `found` the lot of busy loads, and all that have up to `left` of the loads behind it."""
    found.append(lot)
    if len(found) > most:
        raise TooMany(most)
    if left == 0:
        return
    for at, load in enumerate(loads):
        if _has_doors(doors, load):
            _add_lots(lot + (load,), _less_doors(doors, load), loads[at:], left - 1, found, most)


def _has_doors(doors, load):
    ins, outs = doors
    return all([ins[i] > 0 and outs[o] > 0 for i, o in load])


def _less_doors(doors, load):
    ins, outs = list(doors[0]), list(doors[1])
    for i, o in load:
        ins[i] -= 1
        outs[o] -= 1
    return ins, outs
