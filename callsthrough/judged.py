"""What a rule leads to, and whether it ever bars a call."""

from callsthrough.places import free_for, open_pairs, placed, places, unplaced
from callsthrough.reach import first_row, lengths_to, states_that_come
from callsthrough.standings import empty, is_standing

MOST_STANDINGS = 2000


def closed(rule):
    """Return the ascending list of the standings that come under the rule."""
    return sorted(list(_standings_that_come(rule)))


def _standings_that_come(rule):
    """Return a dict with the list of the next standings for each standing that comes."""
    # A barred call takes no place, and its end does nothing. So it leads nowhere
    # that a row without it does not lead, too.
    return states_that_come(empty(rule.exchange), lambda standing: _next_standings(rule, standing), MOST_STANDINGS)


def _next_standings(rule, standing):
    found = [later for _, _, later in _calls_let(rule, standing)]
    return found + [unplaced(standing, pair, k) for pair, k in places(standing)]


def _calls_let(rule, standing):
    """Return the list of the tuples (pair, place, next standing) of the calls that are let, ascending by pair."""
    found = []
    for pair in open_pairs(rule.exchange, standing):
        k = rule.pick(standing, pair)
        if k is not None:
            found.append((pair, (pair, k), placed(standing, pair, k)))
    return found


def bars(rule):
    """Return the first of the shortest right rows whose last deed is a barred call, or None."""
    after = _standings_that_come(rule)
    goals = [standing for standing in after if _barred_pairs(rule.exchange, standing) != []]
    lengths = lengths_to(goals, after)
    if empty(rule.exchange) not in lengths:
        return None
    row, standing = first_row(
        empty(rule.exchange), lengths, lambda earlier: _calls_let(rule, earlier),
        lambda earlier, place: unplaced(earlier, place[0], place[1]),
    )
    return row + [("call", _barred_pairs(rule.exchange, standing)[0])]


def _barred_pairs(exchange, standing):
    return [pair for pair in open_pairs(exchange, standing) if free_for(standing, pair) == []]


def safe_fault(rule, standings):
    """Return the first fault of a list that shall show that the rule never bars a call, or None."""
    if not isinstance(standings, list) or len(standings) > MOST_STANDINGS:
        return ("form",)
    for k, standing in enumerate(standings):
        if not is_standing(rule.exchange, standing):
            return ("standing", k)
    listed = {standing: True for standing in standings}
    if empty(rule.exchange) not in listed:
        return ("empty",)
    for k, standing in enumerate(standings):
        fault = _call_fault(rule, standing, k, listed)
        if fault is None:
            fault = _end_fault(standing, k, listed)
        if fault is not None:
            return fault
    return None


def _call_fault(rule, standing, k, listed):
    for pair in open_pairs(rule.exchange, standing):
        middle = rule.pick(standing, pair)
        if middle is None:
            return ("barred", k, pair)
        if placed(standing, pair, middle) not in listed:
            return ("call", k, pair)
    return None


def _end_fault(standing, k, listed):
    for pair, middle in places(standing):
        if unplaced(standing, pair, middle) not in listed:
            return ("end", k, pair, middle)
    return None
