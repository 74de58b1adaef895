"""Standings whose calls are told apart: each load is an ascending tuple of (i, o, number).

Where a call ends, it matters which of several calls of one pair it is.
"""

from callsthrough.places import free_for, placed


def ways_to_place(loads, pair, n):
    """Return the tuples (k, standing with call number n in free middle k), one for all equal loads."""
    found = []
    tried = []
    for k in free_for(loads, pair):
        if loads[k] not in tried:
            tried.append(loads[k])
            found.append((k, with_number(loads, pair, n, k)))
    return found


def with_number(loads, pair, n, k):
    return placed(loads, (pair[0], pair[1], n), k)


def without_number(loads, n):
    """Return the standing without call number n, which may be in no load."""
    return tuple([tuple([call for call in load if call[2] != n]) for load in loads])


def shape_of_numbered(loads):
    return tuple(sorted([tuple([(i, o) for i, o, _ in load]) for load in loads]))
