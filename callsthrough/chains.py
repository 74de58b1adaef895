"""Chains of calls that change between two middles."""

from callsthrough.loads import call_at
from callsthrough.places import placed, unplaced


def chain_steps(standing, pair, p, q):
    """Return the steps (pair, middle, new middle) that make p free for the pair.

    Load p must be without the input switch of the pair, load q without its output switch.
    """
    steps = []
    if call_at(standing[q], 0, pair[0]) is None:
        return steps
    here, there, side = p, q, 1
    call = call_at(standing[here], side, pair[side])
    while call is not None:
        steps.append((call, here, there))
        here, there, side = there, here, 1 - side
        call = call_at(standing[here], side, call[side])
    return steps


def after_steps(standing, steps):
    """Return the standing after all the steps are done at once."""
    for call, k, to in steps:
        standing = unplaced(standing, call, k)
    for call, k, to in steps:
        standing = placed(standing, call, to)
    return standing
