"""How many moves a number of calls needs, if both sides play as well as they can."""

from callsthrough.contests import least_given_up
from callsthrough.places import open_pairs
from callsthrough.shapes import pairs_of, shapes_behind_ends


def many_calls(shape):
    return len(pairs_of(shape))


class Steps:
    """The shapes of a contest by number, and what ends and calls lead to from each.

    A shape comes behind the shapes that its ends lead to, so the empty shape is number 0.
    """

    def __init__(self, contest):
        self.shapes = sorted(contest.shapes, key=many_calls)
        numbers = {shape: n for n, shape in enumerate(self.shapes)}
        self.ends = []
        self.lets = []
        for shape in self.shapes:
            self.ends.append([numbers[behind] for behind in shapes_behind_ends(shape).values()])
            self.lets.append([
                [(least_given_up(shape, later), numbers[later]) for later in contest.letting(shape, pair)]
                for pair in open_pairs(contest.exchange, shape)
            ])

    def one_call_more(self, worths, bottom, top):
        """Return the worth of each shape with one call more, if a move costs `bottom` and a call gains `top`."""
        found = []
        for ends, lets in zip(self.ends, self.lets):
            choices = [found[n] for n in ends]
            for laters in lets:
                choices.append(min([bottom * moves + worths[n] for moves, n in laters]) - top)
            found.append(max(choices))
        return found


class Rounds:
    """The worths of 0, 1, 2 and more calls, until they come again with some number of moves more."""

    def __init__(self, steps):
        self.worths = []
        known = {}
        worths = [0] * len(steps.shapes)
        # Only the worths relative to the empty shape matter for what comes next.
        while _relative(worths) not in known:
            known[_relative(worths)] = len(self.worths)
            self.worths.append(worths)
            worths = steps.one_call_more(worths, 1, 0)
        self.begin = known[_relative(worths)]
        self.calls = len(self.worths) - self.begin
        self.moves = worths[0] - self.worths[self.begin][0]

    def worth_of(self, calls, number):
        """Return the worth of so many calls for the shape of this number."""
        if calls < len(self.worths):
            return self.worths[calls][number]
        turns, rest = divmod(calls - self.begin, self.calls)
        return self.worths[self.begin + rest][number] + turns * self.moves

    def least_calls(self, moves):
        """Return the least number of calls whose worth for the empty shape is at least so many moves, or None."""
        for calls, worths in enumerate(self.worths):
            if worths[0] >= moves:
                return calls
        if self.moves == 0:
            return None
        found = []
        for calls in range(self.begin, len(self.worths)):
            # Turns that are not full count as full.
            turns = -((self.worths[calls][0] - moves) // self.moves)
            found.append(calls + turns * self.calls)
        return min(found)


def _relative(worths):
    return tuple([worth - worths[0] for worth in worths])
