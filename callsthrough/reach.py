"""What can be reached deed by deed from a state, and by which row of deeds first."""

from callsthrough.errors import TooMany


def states_that_come(start, nexts_of, most):
    """Return a dict with the list of the next states for each state that comes.

    TooMany is raised if there are more than `most` of them.
    """
    waiting = [start]
    known = {start: True}
    after = {}
    while waiting != []:
        state = waiting.pop()
        nexts = nexts_of(state)
        after[state] = nexts
        for later in nexts:
            if later not in known:
                known[later] = True
                waiting.append(later)
        if len(known) > most:
            raise TooMany(most)
    return after


def lengths_to(goals, after):
    """Return for each state from which a goal can be reached the least number of deeds, plus 1."""
    before = {state: [] for state in after}
    for state in after:
        for later in after[state]:
            before[later].append(state)
    lengths = {state: 1 for state in goals}
    ring = goals
    while ring != []:
        wider = []
        for state in ring:
            for earlier in before[state]:
                if earlier not in lengths:
                    lengths[earlier] = lengths[state] + 1
                    wider.append(earlier)
        ring = wider
    return lengths


def first_row(state, lengths, calls_from, behind_end):
    """Return the first of the shortest rows of deeds to a goal, and the goal.

    `calls_from` gives for a state the tuples (pair, place, next state) of the calls that are
    let, ascending by pair; `behind_end` gives the state without a place.
    """
    row, places = [], []
    while lengths[state] > 1:
        steps = [(("call", pair), place, later) for pair, place, later in calls_from(state)]
        for n, place in enumerate(places):
            if place is not None:
                steps.append((("end", n), place, behind_end(state, place)))
        nearer = [step for step in steps if lengths.get(step[2]) == lengths[state] - 1]
        deed, place, state = nearer[0]
        row.append(deed)
        if deed[0] == "call":
            places.append(place)
        else:
            places[deed[1]] = None
    return row, state
