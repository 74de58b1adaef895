"""How many moves a call needs in the long run, and papers that show it."""

from callsthrough.contests import Contest, least_given_up
from callsthrough.kinds import is_plain_int
from callsthrough.places import open_pairs
from callsthrough.rounds import Rounds, Steps
from callsthrough.shapes import added_pair, is_move, shapes_behind_ends
from callsthrough.shares import Share
from callsthrough.standings import is_shape


def mean(exchange):
    """Return the moves for a call in the long run, as a share."""
    return _mean_of(Steps(Contest(exchange)))


def _mean_of(steps):
    rounds = Rounds(steps)
    return Share(rounds.moves, rounds.calls)


def _gain(share, moves):
    """Return what a call with so many moves adds to the height."""
    return share.bottom * moves - share.top


def _costs(contest, share, heights, shape, pair):
    """Return a dict: for each shape that lets the call, ascending, its height and what the call adds."""
    laters = contest.letting(shape, pair)
    return {later: _gain(share, least_given_up(shape, later)) + heights[later] for later in laters}


def _even_heights(contest):
    """Return the mean and heights that are, for each shape, just what ends and calls make of them.

    With such heights neither an upper nor a lower paper has a fault.
    """
    steps = Steps(contest)
    share = _mean_of(steps)
    heights = [0] * len(steps.shapes)
    # First they only rise, up to some that no deed raises; then these only fall.
    later = _raised(steps, share, heights)
    while later != heights:
        heights = later
        later = _raised(steps, share, heights)
    later = steps.one_call_more(heights, share.bottom, share.top)
    while later != heights:
        heights = later
        later = steps.one_call_more(heights, share.bottom, share.top)
    return share, {shape: height for shape, height in zip(steps.shapes, heights)}


def _raised(steps, share, heights):
    later = steps.one_call_more(heights, share.bottom, share.top)
    return [max(height, after) for height, after in zip(heights, later)]


def upper_paper(exchange):
    """Return heights and a table that show that the mean is not greater than it is."""
    contest = Contest(exchange)
    share, heights = _even_heights(contest)
    table = {}
    for shape in contest.shapes:
        for pair in open_pairs(exchange, shape):
            costs = _costs(contest, share, heights, shape, pair)
            table[(shape, pair)] = min(list(costs), key=lambda later: costs[later])
    return heights, table


def lower_paper(exchange):
    """Return heights and moves that show that the mean is not less than it is."""
    contest = Contest(exchange)
    share, heights = _even_heights(contest)
    moves = {shape: _move_that_keeps_up(contest, share, heights, shape) for shape in contest.shapes}
    return heights, moves


def _move_that_keeps_up(contest, share, heights, shape):
    """Return a move after which no height is below the height of the shape; there is one."""
    behind = shapes_behind_ends(shape)
    moves = [("end", pair, load) for pair, load in behind if heights[behind[(pair, load)]] >= heights[shape]]
    for pair in open_pairs(contest.exchange, shape):
        if min(list(_costs(contest, share, heights, shape, pair).values())) >= heights[shape]:
            moves.append(("call", pair))
    return moves[0]


def upper_fault(exchange, share, heights, table):
    """Return the first fault of a paper that shall show that the mean is at most the share, or None."""
    contest = Contest(exchange)
    fault = _heights_fault(contest, heights, table)
    if fault is not None:
        return fault
    for shape in contest.shapes:
        fault = _rising_end(heights, shape)
        if fault is None:
            fault = _dear_call(exchange, share, heights, table, shape)
        if fault is not None:
            return fault
    return None


def _heights_fault(contest, heights, others):
    if not isinstance(heights, dict) or not isinstance(others, dict):
        return ("form",)
    for shape in contest.shapes:
        if not is_plain_int(heights.get(shape)):
            return ("height", shape)
    return None


def _rising_end(heights, shape):
    behind = shapes_behind_ends(shape)
    for pair, load in behind:
        if heights[behind[(pair, load)]] > heights[shape]:
            return ("end", shape, pair, load)
    return None


def _dear_call(exchange, share, heights, table, shape):
    for pair in open_pairs(exchange, shape):
        later = table.get((shape, pair))
        if not is_shape(exchange, later) or added_pair(shape, later) != pair:
            return ("next", shape, pair)
        if _gain(share, least_given_up(shape, later)) + heights[later] > heights[shape]:
            return ("price", shape, pair)
    return None


def lower_fault(exchange, share, heights, moves):
    """Return the first fault of a paper that shall show that the mean is at least the share, or None."""
    contest = Contest(exchange)
    fault = _heights_fault(contest, heights, moves)
    if fault is not None:
        return fault
    for shape in contest.shapes:
        move = moves.get(shape)
        if not is_move(exchange, shape, move):
            return ("move", shape)
        costs = _costs_of_move(contest, share, heights, shape, move)
        lower = [after for after in costs if costs[after] < heights[shape]]
        if lower != []:
            return ("step", shape, lower[0])
    return None


def _costs_of_move(contest, share, heights, shape, move):
    if move[0] == "call":
        return _costs(contest, share, heights, shape, move[1])
    after = shapes_behind_ends(shape)[move[1:]]
    return {after: heights[after]}
