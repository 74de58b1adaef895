"""Papers that show that calls can be let for ever without moves, or that they can not."""

from callsthrough.kinds import is_plain_int
from callsthrough.loads import is_load
from callsthrough.places import open_pairs
from callsthrough.shapes import is_move, next_shapes, shapes_behind_ends
from callsthrough.standings import all_shapes, empty, is_shape


def keep_fault(exchange, shapes, table):
    """Return the first fault of shapes and loads that shall show that can_keep is True, or None."""
    if not isinstance(shapes, list) or not isinstance(table, dict):
        return ("form",)
    for k, shape in enumerate(shapes):
        if not is_shape(exchange, shape):
            return ("shape", k)
    listed = {shape: True for shape in shapes}
    if empty(exchange) not in listed:
        return ("empty",)
    for k, shape in enumerate(shapes):
        fault = _call_fault(exchange, shape, k, table, listed)
        if fault is None:
            fault = _end_fault(shape, k, listed)
        if fault is not None:
            return fault
    return None


def _call_fault(exchange, shape, k, table, listed):
    for pair in open_pairs(exchange, shape):
        nexts = next_shapes(shape, pair)
        load = table.get((shape, pair))
        if not is_load(exchange, load) or load not in nexts or nexts[load] not in listed:
            return ("call", k, pair)
    return None


def _end_fault(shape, k, listed):
    behind = shapes_behind_ends(shape)
    for pair, load in behind:
        if behind[(pair, load)] not in listed:
            return ("end", k, pair, load)
    return None


def foe_fault(exchange, ranks, moves):
    """Return the first fault of ranks and moves that shall show that can_keep is False, or None."""
    shapes = all_shapes(exchange)
    if not isinstance(ranks, dict) or not isinstance(moves, dict):
        return ("form",)
    if empty(exchange) not in ranks:
        return ("empty",)
    ranked = [shape for shape in shapes if shape in ranks]
    for shape in ranked:
        if not is_plain_int(ranks[shape]) or ranks[shape] < 0:
            return ("rank", shape)
    for shape in ranked:
        move = moves.get(shape)
        if not is_move(exchange, shape, move):
            return ("move", shape)
        for after in _shapes_after(shape, move):
            if after not in ranks or ranks[after] >= ranks[shape]:
                return ("step", shape, after)
    return None


def _shapes_after(shape, move):
    """Return the ascending list of the shapes that a move may lead to."""
    if move[0] == "call":
        return sorted(list(next_shapes(shape, move[1]).values()))
    return [shapes_behind_ends(shape)[move[1:]]]
