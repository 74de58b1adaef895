"""Standings with given calls, counted and searched middle by middle."""

from callsthrough.errors import TooMany
from callsthrough.loads import loads_out_of
from callsthrough.places import free_for, placed

MOST_REFITS = 2000


class Refits:
    """Ways to let a call by moving others, of one exchange.

    The calls that are not yet in a middle are a tuple, `rest`: how many calls each pair
    of the exchange has. They fit into a number of middles just if no switch has more
    calls than that, so each load that is taken must have all switches with as many.
    """

    def __init__(self, exchange):
        self.exchange = exchange
        self.fitting = {}
        self.numbers = {}
        self.cheap = {}

    def letting(self, standing, pair):
        """Return the least number of places given up and a standing that lets the call, or None.

        The standing and the pair are not checked; both switches have a free door.
        """
        free = free_for(standing, pair)
        if free != []:
            return 0, placed(standing, pair, free[0])
        rest = self.rest_of([pair] + [call for load in standing for call in load])
        ins, outs = self.calls_at_switches(rest)
        if max(ins + outs) > len(standing):
            return None
        if self.number_of_ways(rest, len(standing)) > MOST_REFITS:
            raise TooMany(MOST_REFITS)
        return self.cheapest(rest, standing)

    def rest_of(self, pairs):
        return tuple([pairs.count(pair) for pair in self.exchange.pairs()])

    def rest_without(self, rest, load):
        many_outs = len(self.exchange.outs)
        numbers = list(rest)
        for i, o in load:
            numbers[i * many_outs + o] -= 1
        return tuple(numbers)

    def calls_at_switches(self, rest):
        ins, outs = [0] * len(self.exchange.ins), [0] * len(self.exchange.outs)
        for pair, many in zip(self.exchange.pairs(), rest):
            ins[pair[0]] += many
            outs[pair[1]] += many
        return ins, outs

    def fitting_loads(self, rest, left):
        """Return the loads after which the rest fits into one middle less."""
        if (rest, left) not in self.fitting:
            ins, outs = self.calls_at_switches(rest)
            full_ins = [i for i, many in enumerate(ins) if many == left]
            full_outs = [o for o, many in enumerate(outs) if many == left]
            pairs = [pair for pair, many in zip(self.exchange.pairs(), rest) if many > 0]
            self.fitting[(rest, left)] = loads_out_of(pairs, full_ins, full_outs)
        return self.fitting[(rest, left)]

    def number_of_ways(self, rest, left):
        """Return how many ways spread the rest over the middles left, or some number above the most."""
        if left == 0:
            return 1
        if (rest, left) not in self.numbers:
            number = 0
            loads = self.fitting_loads(rest, left)
            for load in loads:
                number = number + self.number_of_ways(self.rest_without(rest, load), left - 1)
                if number > MOST_REFITS:
                    break
            self.numbers[(rest, left)] = number
        return self.numbers[(rest, left)]

    def cheapest(self, rest, old_loads):
        """Return the least number of old places given up and the new loads."""
        if old_loads == ():
            return 0, ()
        if (rest, old_loads) not in self.cheap:
            best = None
            loads = self.fitting_loads(rest, len(old_loads))
            for load in loads:
                lost, others = self.cheapest(self.rest_without(rest, load), old_loads[1:])
                lost = lost + len([call for call in old_loads[0] if call not in load])
                if best is None or lost < best[0]:
                    best = (lost, (load,) + others)
            self.cheap[(rest, old_loads)] = best
        return self.cheap[(rest, old_loads)]
