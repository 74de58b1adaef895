"""What several tests need: values of every kind that callers may pass."""

from callsthrough.errors import BadShare, CallError
from callsthrough.exchanges import Exchange
from callsthrough.shares import Share


def nested(wrap, depth=30):
    value = None
    for _ in range(depth):
        value = wrap(value)
    return value


def no_integers():
    """Values of all kinds but integers, each time new ones."""
    return [
        None, True, False, "", "1", "ins",
        (), (1,), (1, 2), ("a", None), [], [1], [1, 2], {}, {1: 2}, {"top": (1,)},
        nested(lambda value: (value,)), nested(lambda value: [value]), nested(lambda value: {0: value}),
        Share(1), Share(1, 2), Exchange((1,), (1,), 1), CallError("x"), BadShare("top"), object(), Share, Exchange,
    ]


def odd_integers():
    return [-(10 ** 5000), -(10 ** 40), -2, -1, 0, 8, 9, 10 ** 40, 10 ** 5000]


def caught(error, work):
    """The error of this very class that the work raises; any other one passes on."""
    try:
        work()
    except error as e:
        assert e.__class__ == error, e.__class__
        return e
    raise AssertionError(f"no {error.__name__} was raised")
