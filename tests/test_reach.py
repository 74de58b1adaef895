"""The walk that rows of deeds are told by, on a game that is made up."""

import unittest

from callsthrough.errors import TooMany
from callsthrough.reach import first_row, lengths_to, states_that_come
from tests.helper import caught

# One call hands on to the next: its place is let only where the place before it stands alone.
CALLS = {"": "x", "x": "y", "y": "z", "z": "w"}


def calls_from(state):
    if state not in CALLS:
        return []
    return [((9, 9), "trap", state + "!"), ((9, 10), CALLS[state], state + CALLS[state])]


def behind_end(state, place):
    return state.replace(place, "")


def nexts_of(state):
    return [later for _, _, later in calls_from(state)] + [behind_end(state, place) for place in state if place != "!"]


class ReachTest(unittest.TestCase):
    ALL = ["", "!", "w", "x", "x!", "xy", "y", "y!", "yz", "z", "z!", "zw"]

    def test_states_that_come(self):
        after = states_that_come("", nexts_of, 12)
        self.assertEqual(sorted(after), self.ALL)
        for state in after:
            self.assertEqual(after[state], nexts_of(state))
        for most in (11, 3, 1):
            self.assertEqual(caught(TooMany, lambda: states_that_come("", nexts_of, most)).most, most)

    def test_lengths(self):
        lengths = lengths_to(["w"], states_that_come("", nexts_of, 12))
        self.assertEqual([lengths[state] for state in ("w", "zw", "z", "yz", "y", "xy", "x", "")], list(range(1, 9)))
        # From the others no row leads to the goal.
        self.assertEqual(len(lengths), 8)
        both = lengths_to(["w", "y"], states_that_come("", nexts_of, 12))
        self.assertEqual((both["y"], both["xy"], both[""], both["zw"]), (1, 2, 4, 2))
        self.assertEqual(lengths_to([], states_that_come("", nexts_of, 12)), {})

    def test_calls_keep_their_numbers(self):
        lengths = lengths_to(["w"], states_that_come("", nexts_of, 12))
        call = ("call", (9, 10))
        row = [call, call, ("end", 0), call, ("end", 1), call, ("end", 2)]
        self.assertEqual(first_row("", lengths, calls_from, behind_end), (row, "w"))
        self.assertEqual(first_row("w", lengths, calls_from, behind_end), ([], "w"))


if __name__ == "__main__":
    unittest.main()
