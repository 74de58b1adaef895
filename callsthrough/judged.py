"""What a rule leads to, and whether it ever bars a call."""

from callsthrough.errors import TooMany
from callsthrough.places import free_for, open_pairs, placed, places, unplaced
from callsthrough.standings import empty, is_standing

MOST_STANDINGS = 2000


def closed(rule):
    """Return the ascending list of the standings that come under the rule."""
    return sorted(list(_standings_that_come(rule)))


def _standings_that_come(rule):
    """Return a dict with the list of the next standings for each standing that comes."""
    # A barred call takes no place, and its end does nothing. So it leads nowhere
    # that a row without it does not lead, too.
    waiting = [empty(rule.exchange)]
    known = {empty(rule.exchange): True}
    after = {}
    while waiting != []:
        standing = waiting.pop()
        nexts = _next_standings(rule, standing)
        after[standing] = nexts
        for later in nexts:
            if later not in known:
                known[later] = True
                waiting.append(later)
        if len(known) > MOST_STANDINGS:
            raise TooMany(MOST_STANDINGS)
    return after


def _next_standings(rule, standing):
    found = []
    for pair in open_pairs(rule.exchange, standing):
        k = rule.pick(standing, pair)
        if k is not None:
            found.append(placed(standing, pair, k))
    return found + [unplaced(standing, pair, k) for pair, k in places(standing)]


def bars(rule):
    """Return the first of the shortest right rows whose last deed is a barred call, or None."""
    after = _standings_that_come(rule)
    lengths = _lengths_to_bar(rule.exchange, after)
    standing = empty(rule.exchange)
    if standing not in lengths:
        return None
    row = []
    calls = []
    while lengths[standing] > 1:
        deed, k = _first_deed_nearer(rule, standing, calls, lengths)
        row.append(deed)
        if deed[0] == "call":
            standing = placed(standing, deed[1], k)
            calls.append((deed[1], k))
        else:
            pair, old = calls[deed[1]]
            standing = unplaced(standing, pair, old)
            calls[deed[1]] = None
    return row + [("call", _barred_pairs(rule.exchange, standing)[0])]


def _barred_pairs(exchange, standing):
    return [pair for pair in open_pairs(exchange, standing) if free_for(standing, pair) == []]


def _lengths_to_bar(exchange, after):
    """Return for each standing from which a barred call can be reached the least number of deeds to it."""
    before = {standing: [] for standing in after}
    for standing in after:
        for later in after[standing]:
            before[later].append(standing)
    ring = [standing for standing in after if _barred_pairs(exchange, standing) != []]
    lengths = {standing: 1 for standing in ring}
    while ring != []:
        wider = []
        for standing in ring:
            for earlier in before[standing]:
                if earlier not in lengths:
                    lengths[earlier] = lengths[standing] + 1
                    wider.append(earlier)
        ring = wider
    return lengths


def _first_deed_nearer(rule, standing, calls, lengths):
    """Return the first deed that comes nearer to a barred call, and the middle of a call or None.

    No call is barred in this standing, and some deed comes nearer.
    """
    wanted = lengths[standing] - 1
    for pair in open_pairs(rule.exchange, standing):
        k = rule.pick(standing, pair)
        if lengths[placed(standing, pair, k)] == wanted:
            return ("call", pair), k
    ends = [n for n, place in enumerate(calls) if place is not None]
    nearer = [n for n in ends if lengths[unplaced(standing, calls[n][0], calls[n][1])] == wanted]
    return ("end", nearer[0]), None


def safe_fault(rule, standings):
    """Return the first fault of a list that shall show that the rule never bars a call, or None."""
    if not isinstance(standings, list) or len(standings) > MOST_STANDINGS:
        return ("form",)
    for k, standing in enumerate(standings):
        if not is_standing(rule.exchange, standing):
            return ("standing", k)
    listed = {standing: True for standing in standings}
    if empty(rule.exchange) not in listed:
        return ("empty",)
    for k, standing in enumerate(standings):
        fault = _call_fault(rule, standing, k, listed)
        if fault is None:
            fault = _end_fault(standing, k, listed)
        if fault is not None:
            return fault
    return None


def _call_fault(rule, standing, k, listed):
    for pair in open_pairs(rule.exchange, standing):
        middle = rule.pick(standing, pair)
        if middle is None:
            return ("barred", k, pair)
        if placed(standing, pair, middle) not in listed:
            return ("call", k, pair)
    return None


def _end_fault(standing, k, listed):
    for pair, middle in places(standing):
        if unplaced(standing, pair, middle) not in listed:
            return ("end", k, pair, middle)
    return None
