"""How many calls must be moved, if both sides play as well as they can."""

from callsthrough.contests import Contest, least_given_up
from callsthrough.errors import BadCount, NoShape, NotNext
from callsthrough.kinds import is_int_within
from callsthrough.rounds import Rounds, Steps
from callsthrough.shapes import added_pair
from callsthrough.standings import is_shape


def price(exchange, shape, later):
    """Return the least number of places that the shape gives up for a shape with one call more."""
    _check_shape(exchange, shape)
    _check_shape(exchange, later)
    if added_pair(shape, later) is None:
        raise NotNext(later)
    return least_given_up(shape, later)


def _check_shape(exchange, thing):
    if not is_shape(exchange, thing):
        raise NoShape(thing)


def _check_count(thing):
    if not is_int_within(thing, 0, 10 ** 30):
        raise BadCount(thing)


def worth(exchange, calls, *, start=None):
    """Return the number of moves that so many calls need from the start, or from the empty shape."""
    _check_count(calls)
    if start is not None:
        _check_shape(exchange, start)
    steps = Steps(Contest(exchange))
    number = 0 if start is None else steps.shapes.index(start)
    return Rounds(steps).worth_of(calls, number)


def calls_for(exchange, moves):
    """Return the least number of calls that need so many moves, or None."""
    _check_count(moves)
    return Rounds(Steps(Contest(exchange))).least_calls(moves)
