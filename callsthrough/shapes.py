"""Shapes: what a call or an end leads to, without any check of what is passed."""

from callsthrough.places import free_for, placed, places, unplaced


def next_shapes(shape, pair):
    """Return a dict: for the load of each free middle the shape that has the pair added to it."""
    return {shape[k]: tuple(sorted(placed(shape, pair, k))) for k in free_for(shape, pair)}


def shapes_behind_ends(shape):
    """Return a dict: for each end (pair, load), ascending, the shape behind it."""
    found = {}
    # Middles with equal loads stand side by side, so the loads of a pair ascend, too.
    for pair, k in places(shape):
        found[(pair, shape[k])] = tuple(sorted(unplaced(shape, pair, k)))
    return found
