"""Picking middles without moves, whatever calls come and end."""

from callsthrough.counts import degree, strict
from callsthrough.errors import BadRule
from callsthrough.judged import bars
from callsthrough.places import open_pairs
from callsthrough.rules import Rule, is_word
from callsthrough.shapes import next_shapes, shapes_behind_ends
from callsthrough.standings import all_shapes, empty


def kept(exchange):
    """Return the ascending list of the shapes of the greatest closed lot."""
    steps = _steps_of_shapes(exchange)
    ranks, _ = _lost_shapes(steps)
    return [shape for shape in steps if shape not in ranks]


def can_keep(exchange):
    """Tell whether some way of picking never bars a call from the empty shape on."""
    ranks, _ = _lost_shapes(_steps_of_shapes(exchange))
    return empty(exchange) not in ranks


def _steps_of_shapes(exchange):
    """Return for each shape, ascending, a dict: for each move of foe the shapes that it may lead to."""
    found = {}
    for shape in all_shapes(exchange):
        behind = shapes_behind_ends(shape)
        steps = {("end", pair, load): [behind[(pair, load)]] for pair, load in behind}
        for pair in open_pairs(exchange, shape):
            steps[("call", pair)] = list(next_shapes(shape, pair).values())
        found[shape] = steps
    return found


def _lost_shapes(steps):
    """Return the ranks and the moves of the shapes from which each way of picking can be led to a barred call.

    The rank is the number of deeds that are needed before the call that is barred.
    """
    ranks, moves = {}, {}
    rank = 0
    rest = list(steps)
    lost = _shapes_with_lost_move(steps, rest, ranks)
    while lost != {}:
        for shape in lost:
            ranks[shape] = rank
            moves[shape] = lost[shape]
        rank += 1
        rest = [shape for shape in rest if shape not in ranks]
        lost = _shapes_with_lost_move(steps, rest, ranks)
    return ranks, moves


def _shapes_with_lost_move(steps, shapes, ranks):
    """Return for some of the shapes a move that leads to shapes with ranks only, whatever is picked."""
    found = {}
    for shape in shapes:
        for move in steps[shape]:
            if all([later in ranks for later in steps[shape][move]]):
                found[shape] = move
                break
    return found


def keeper(exchange):
    """Return a table of a rule that stays within kept, or None."""
    steps = _steps_of_shapes(exchange)
    ranks, _ = _lost_shapes(steps)
    if empty(exchange) in ranks:
        return None
    table = {}
    for shape in steps:
        for pair in open_pairs(exchange, shape):
            nexts = next_shapes(shape, pair)
            good = [load for load in nexts if nexts[load] not in ranks]
            if nexts != {}:
                table[(shape, pair)] = (good + list(nexts))[0]
    return table


def foe(exchange):
    """Return the ranks and the moves that bring each way of picking to a barred call, or None."""
    ranks, moves = _lost_shapes(_steps_of_shapes(exchange))
    if empty(exchange) not in ranks:
        return None
    return ranks, moves


def least_middles(exchange):
    """Return the least number of middles, from the degree on, with which can_keep is True."""
    return _least_number(exchange, can_keep)


def least_for(exchange, word):
    """Return the least number of middles, from the degree on, with which the rule never bars a call."""
    if not is_word(word):
        raise BadRule(word)
    return _least_number(exchange, lambda wider: bars(Rule(wider, word)) is None)


def _least_number(exchange, is_enough):
    enough = strict(exchange)
    for middles in range(degree(exchange), enough):
        if is_enough(exchange.with_middles(middles)):
            return middles
    return enough
