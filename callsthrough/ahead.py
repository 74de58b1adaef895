"""Which calls to refuse, where all deeds are known before the first one."""

from callsthrough.deeds import check_deeds
from callsthrough.kinds import is_int_within
from callsthrough.numbered import ways_to_place, with_number, without_number
from callsthrough.places import free_for
from callsthrough.standings import check_number_of_shapes, empty


def fewest_lost(exchange, deeds):
    """Return the least number of calls that are refused."""
    lost, _ = _best_way(exchange, deeds)
    return lost


def ahead_plan(exchange, deeds):
    """Return a list with the middle of each call, or None, with which the fewest calls are refused."""
    _, plan = _best_way(exchange, deeds)
    return list(plan)


def _best_way(exchange, deeds):
    """Return the least number of refused calls and the items of a plan that refuses so many."""
    check_deeds(exchange, deeds)
    check_number_of_shapes(exchange)
    # Of all ways with the same calls in the same middles, but for their names, one
    # that has lost the fewest calls is as good as any.
    ways = {empty(exchange): (0, empty(exchange), ())}
    came = 0
    for word, thing in deeds:
        if word == "call":
            ways = _ways_after_call(ways, thing, came)
            came += 1
        else:
            ways = _ways_after_end(ways, thing)
    lost, _, plan = min(list(ways.values()), key=lambda way: way[0])
    return lost, plan


def _ways_after_call(ways, pair, n):
    found = {}
    for lost, loads, plan in ways.values():
        _keep_the_best(found, (lost + 1, loads, plan + (None,)))
        for k, later in ways_to_place(loads, pair, n):
            _keep_the_best(found, (lost, later, plan + (k,)))
    return found


def _ways_after_end(ways, n):
    found = {}
    for lost, loads, plan in ways.values():
        _keep_the_best(found, (lost, without_number(loads, n), plan))
    return found


def _keep_the_best(found, way):
    key = tuple(sorted(way[1]))
    if key not in found or way[0] < found[key][0]:
        found[key] = way


def plan_fault(exchange, deeds, plan):
    """Return the first fault of a list that shall give each call a free middle or None, or None."""
    check_deeds(exchange, deeds)
    if not _is_plan(exchange, deeds, plan):
        return ("form",)
    loads = empty(exchange)
    came = 0
    for word, thing in deeds:
        if word == "end":
            loads = without_number(loads, thing)
            continue
        k = plan[came]
        if k is not None:
            if k not in free_for(loads, thing):
                return ("call", came)
            loads = with_number(loads, thing, came, k)
        came += 1
    return None


def _is_plan(exchange, deeds, plan):
    if not isinstance(plan, list) or len(plan) != len([word for word, _ in deeds if word == "call"]):
        return False
    return all([k is None or is_int_within(k, 0, exchange.middles - 1) for k in plan])
