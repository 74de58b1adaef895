import unittest
from collections import Counter
from itertools import combinations, permutations

from callsthrough import moves
from callsthrough.counts import strict
from callsthrough.errors import NoDoor, NoMiddle, NoPair, NoStanding, TooMany
from callsthrough.exchanges import Exchange
from callsthrough.moves import chain, least_moves, most_moves, moved
from callsthrough.standings import all_shapes, is_standing
from tests.helper import (
    added, all_standings, caught, frees, kinds, odd_values, opens, pairs_of, places_of, shape_of, small_exchanges,
    taken,
)
from tests.test_standings import STANDING, wrong_pairs, wrong_standings
from tests.test_standings import EXCHANGE as WIDE

EXCHANGE = Exchange.square(2, 2, 2)
BARRING = (((0, 0),), ((1, 1),))

# Standings that bar a call that could be let, with the number of standings that let it.
NUMBERED = [
    (2000, (4, 3, 1, 1), (3, 4, 1, 1), (0, 1),
     (((0, 0), (2, 2), (3, 3)), ((0, 0),), ((0, 0), (1, 1)), ((1, 1),), ((1, 1),))),
    (1968, (3, 3, 2, 4), (4, 3, 3, 3), (1, 1),
     (((0, 0), (1, 2)), ((0, 2), (3, 1)), ((1, 2), (3, 3)), ((0, 3), (2, 1)))),
    (1944, (1, 4, 2, 3), (2, 2, 4, 4), (3, 2), (((2, 2),), ((0, 2), (2, 1)), ((1, 3), (3, 0)), ((1, 1), (3, 0)))),
    (1920, (1, 4, 3), (4, 2, 2), (1, 0), (((0, 1), (2, 0)), ((1, 2),), ((1, 1), (2, 2)), ((2, 0),), ((1, 0),))),
    (2016, (1, 3, 1, 3), (2, 3, 3, 2), (3, 2), (((1, 0), (2, 2)), ((0, 2), (1, 1)), ((3, 1),), ((1, 3), (3, 0)))),
    (2040, (4, 3, 3), (4, 2, 4), (0, 2),
     (((0, 2), (1, 0), (2, 1)), ((0, 0),), ((0, 0), (1, 1)), ((1, 0), (2, 2)), ((2, 2),))),
    (2100, (1, 4, 4), (2, 2, 4, 4), (1, 3), (((1, 1),), ((2, 3),), ((0, 2), (2, 3)), ((2, 3),), ((1, 0), (2, 1)))),
]


def given_up(old, new):
    return len(places_of(old) - places_of(new))


def standings_with(exchange, pairs):
    """The test's own list of the standings with just these calls, pair by pair."""
    found = [((),) * exchange.middles]
    for pair, many in sorted(Counter(pairs).items()):
        longer = []
        for standing in found:
            for chosen in combinations(frees(standing, pair), many):
                later = standing
                for k in chosen:
                    later = added(later, pair, k)
                longer.append(later)
        found = longer
    return found


def least_by_listing(listed, standing):
    return min([given_up(standing, later) for later in listed], default=None)


def by_calls(standings):
    found = {}
    for standing in standings:
        found.setdefault(tuple(pairs_of(standing)), []).append(standing)
    return found


class LeastMovesTest(unittest.TestCase):

    def assert_moved(self, exchange, standing, pair, least):
        later = moved(exchange, standing, pair)
        if least is None:
            self.assertIsNone(later)
            return
        self.assertIs(is_standing(exchange, later), True)
        self.assertEqual(pairs_of(later), sorted(pairs_of(standing) + [pair]))
        self.assertEqual(given_up(standing, later), least)

    def test_example_of_the_interface(self):
        self.assertEqual((least_moves(EXCHANGE, BARRING, (0, 1)), chain(EXCHANGE, BARRING, (0, 1), 1, 0)),
                         (1, [((1, 1), 1, 0)]))

    def test_small_exchanges_by_listing_all_standings(self):
        seen = Counter()
        for exchange in small_exchanges(1000):
            listed = all_standings(exchange)
            lots = by_calls(listed)
            for standing in listed[::1 + len(listed) // 150]:
                for pair in opens(exchange, standing):
                    lot = lots.get(tuple(sorted(pairs_of(standing) + [pair])), [])
                    wanted = least_by_listing(lot, standing)
                    least = least_moves(exchange, standing, pair)
                    self.assertEqual(least, wanted)
                    self.assertIs(least == 0, frees(standing, pair) != [])
                    self.assert_moved(exchange, standing, pair, wanted)
                    seen[wanted] += 1
        self.assertTrue(all(seen[wanted] > 10 for wanted in (None, 0, 1)), seen)

    def test_shapes_with_two_moves(self):
        exchange = Exchange((2, 2, 1), (2, 2, 1), 2)
        lots = by_calls(all_standings(exchange))
        seen = Counter()
        for standing in all_shapes(exchange):
            for pair in opens(exchange, standing):
                wanted = least_by_listing(lots.get(tuple(sorted(pairs_of(standing) + [pair])), []), standing)
                self.assertEqual(least_moves(exchange, standing, pair), wanted)
                self.assert_moved(exchange, standing, pair, wanted)
                seen[wanted] += 1
        self.assertGreater(seen[2], 0)

    def test_none_just_if_some_switch_has_more_calls_than_middles(self):
        exchange = Exchange((3, 3), (3, 3), 2)
        seen = Counter()
        for standing in all_standings(exchange):
            for pair in opens(exchange, standing):
                up = pairs_of(standing) + [pair]
                many = max(Counter([("in", i) for i, _ in up] + [("out", o) for _, o in up]).values())
                self.assertIs(least_moves(exchange, standing, pair) is None, many > 2)
                seen[many > 2] += 1
        self.assertEqual(set(seen), {True, False})

    def test_the_limit_of_2000(self):
        for number, ins, outs, pair, standing in NUMBERED:
            exchange = Exchange(ins, outs, len(standing))
            listed = standings_with(exchange, pairs_of(standing) + [pair])
            self.assertEqual((len(listed), len(set(listed))), (number, number))
            for renamed in list(permutations(standing))[::17]:
                if number > 2000:
                    self.assertEqual(caught(TooMany, lambda: least_moves(exchange, renamed, pair)).most, 2000)
                    self.assertEqual(caught(TooMany, lambda: moved(exchange, renamed, pair)).most, 2000)
                else:
                    least = least_moves(exchange, renamed, pair)
                    self.assertEqual(least, least_by_listing(listed, renamed))
                    self.assert_moved(exchange, renamed, pair, least)

    def test_no_limit_where_a_middle_is_free(self):
        exchange = Exchange.square(4, 4, 7)
        standing = tuple(tuple((i, (i + k) % 4) for i in range(3)) for k in range(3)) + ((),) * 4
        self.assertEqual(least_moves(exchange, standing, (3, 3)), 0)
        self.assert_moved(exchange, standing, (3, 3), 0)

    def test_no_limit_where_the_call_is_not_possible(self):
        # Input switch 0 has three calls, for three middles; the others can stand in several ways.
        rows = tuple(tuple((i, (i + k) % 4) for i in range(3)) for k in range(3))
        exchange = Exchange.square(4, 4, 3)
        self.assertIsNone(least_moves(exchange, rows, (0, 3)))
        self.assertIsNone(moved(exchange, rows, (0, 3)))
        self.assertIsNone(least_moves(exchange, rows, (2, 0)))

    def test_the_limit_in_great_exchanges(self):
        # The first three middles serve input switch 0, the last three output switch 3.
        standing = (((0, 0), (1, 1)), ((0, 1), (2, 2)), ((0, 2), (3, 0)), ((1, 3), (2, 1)), ((2, 3),), ((1, 0), (3, 3)))
        exchange = Exchange.square(4, 4, 6)
        for work in (least_moves, moved):
            self.assertEqual(caught(TooMany, lambda: work(exchange, standing, (0, 3))).most, 2000)
        self.assertEqual(least_moves(exchange.with_middles(7), standing + ((),), (0, 3)), 0)

    def test_another_call_of_the_same_pair_keeps_the_place(self):
        exchange = Exchange((3, 3), (3, 3), 3)
        standing = (((0, 0),), ((0, 1), (1, 0)), ((1, 1),))
        listed = standings_with(exchange, pairs_of(standing) + [(0, 0)])
        self.assertEqual(least_moves(exchange, standing, (0, 0)), least_by_listing(listed, standing))
        # Only the last middle gives up its place: which call of (0, 0) or (1, 1) stands where does not matter.
        twice = (((0, 0),), ((0, 0), (1, 1)), ((1, 1),))
        later = (((0, 0), (1, 1)), ((0, 0), (1, 1)), ((0, 1),))
        self.assertEqual(given_up(twice, later), 1)
        self.assertEqual(least_moves(exchange, twice, (0, 1)), 1)
        self.assert_moved(exchange, twice, (0, 1), 1)

    def test_kinds_of_the_answers(self):
        self.assertEqual(kinds(least_moves(EXCHANGE, BARRING, (0, 1))), int)
        self.assertEqual(kinds(least_moves(EXCHANGE, ((), ()), (0, 1))), int)
        self.assertEqual(kinds(moved(EXCHANGE, BARRING, (0, 1))), kinds((((0, 0), (1, 1)), ((0, 1),))))
        self.assertEqual(kinds(most_moves(EXCHANGE)), int)

    def test_arguments_by_name(self):
        named = {"exchange": EXCHANGE, "standing": BARRING, "pair": (0, 1)}
        self.assertEqual(least_moves(**named), 1)
        self.assert_moved(**named, least=1)
        self.assertEqual(pairs_of(moved(**named)), [(0, 0), (0, 1), (1, 1)])
        self.assertEqual(chain(p=1, q=0, **named), [((1, 1), 1, 0)])
        self.assertEqual(most_moves(exchange=EXCHANGE), 1)


class ErrorsTest(unittest.TestCase):

    def test_no_standing(self):
        for value in wrong_standings():
            for pair in [(0, 0), None, (9, 9)]:
                for work in (least_moves, moved):
                    self.assertIs(caught(NoStanding, lambda: work(WIDE, value, pair)).thing, value)
                self.assertIs(caught(NoStanding, lambda: chain(WIDE, value, pair, None, 9)).thing, value)

    def test_no_pair(self):
        for value in wrong_pairs():
            for work in (least_moves, moved):
                self.assertIs(caught(NoPair, lambda: work(WIDE, STANDING, value)).thing, value)
            self.assertIs(caught(NoPair, lambda: chain(WIDE, STANDING, value, None, 9)).thing, value)

    def test_no_door(self):
        for work in (least_moves, moved):
            self.assertEqual(caught(NoDoor, lambda: work(WIDE, STANDING, (0, 0))).side, "in")
            self.assertEqual(caught(NoDoor, lambda: work(WIDE, STANDING, (2, 1))).side, "in")
            self.assertEqual(caught(NoDoor, lambda: work(WIDE, STANDING, (1, 1))).side, "out")
            # No door comes before None: with one middle none of these calls could be let.
            one = Exchange((1, 2), (1, 1), 1)
            self.assertEqual(caught(NoDoor, lambda: work(one, (((0, 0),),), (0, 1))).side, "in")
            self.assertEqual(caught(NoDoor, lambda: work(one, (((0, 0),),), (1, 0))).side, "out")
            self.assertIsNotNone(work(one, (((0, 0),),), (1, 1)))

    def test_chain_asks_for_no_door(self):
        exchange = Exchange((1, 1), (1, 1), 2)
        self.assertEqual(chain(exchange, BARRING, (0, 1), 1, 0), [((1, 1), 1, 0)])

    def test_no_middle(self):
        exchange = Exchange.square(3, 3, 3)
        standing = (((0, 0),), ((1, 1),), ())
        odd = [value for value in odd_values() if value is False or value != 0]
        odd += [3, 4, -1, True, False, "0", None, 10 ** 30, (1,), [1]]
        for value in odd:
            for q in (0, 2, 1, None, 9):
                self.assertIs(caught(NoMiddle, lambda: chain(exchange, standing, (0, 1), value, q)).thing, value)
            self.assertIs(caught(NoMiddle, lambda: chain(exchange, standing, (0, 1), 1, value)).thing, value)
        for q in (0, 1, None):
            self.assertEqual(caught(NoMiddle, lambda: chain(exchange, standing, (0, 1), 0, q)).thing, 0)
        self.assertEqual(caught(NoMiddle, lambda: chain(exchange, standing, (0, 1), 1, 1)).thing, 1)
        self.assertEqual(caught(NoMiddle, lambda: chain(exchange, standing, (0, 1), 2, 1)).thing, 1)

    def test_no_argument_is_changed(self):
        thing, pair, k = [[[0, 0]], []], [0, 0], [1]
        caught(NoStanding, lambda: moved(EXCHANGE, thing, pair))
        caught(NoPair, lambda: chain(EXCHANGE, BARRING, pair, k, k))
        caught(NoMiddle, lambda: chain(EXCHANGE, BARRING, (0, 1), k, k))
        self.assertEqual((thing, pair, k), ([[[0, 0]], []], [0, 0], [1]))


class ChainTest(unittest.TestCase):

    def test_no_step_where_p_or_q_is_free(self):
        exchange = Exchange.square(3, 3, 4)
        standing = (((0, 0),), ((1, 1),), (), ())
        for p, q in [(1, 2), (2, 0), (2, 3), (3, 2), (2, 2), (3, 3)]:
            self.assertEqual(chain(exchange, standing, (0, 1), p, q), [])

    def test_several_steps(self):
        exchange = Exchange.square(4, 3, 3)
        standing = (((0, 3), (1, 1), (2, 2)), ((1, 2), (2, 3), (3, 1)), ((0, 0), (1, 3)))
        # p = 1 has no input switch 0, q = 0 has no output switch 0.
        self.assertEqual(chain(exchange, standing, (0, 0), 1, 0), [])
        standing = (((0, 1), (1, 2), (2, 3)), ((1, 0), (2, 2), (3, 3)), ())
        wanted = [((1, 0), 1, 0), ((1, 2), 0, 1), ((2, 2), 1, 0), ((2, 3), 0, 1), ((3, 3), 1, 0)]
        self.assertEqual(chain(exchange, standing, (0, 0), 1, 0), wanted)
        self.assertEqual(kinds(wanted), kinds(chain(exchange, standing, (0, 0), 1, 0)))
        self.assertEqual(chain(exchange, standing, (0, 0), 1, 2), [])

    def test_the_list_is_new_each_time(self):
        first = chain(EXCHANGE, BARRING, (0, 1), 1, 0)
        first.clear()
        self.assertEqual(chain(EXCHANGE, BARRING, (0, 1), 1, 0), [((1, 1), 1, 0)])
        chain(EXCHANGE, ((), ()), (0, 1), 1, 0).append(1)
        self.assertEqual(chain(EXCHANGE, ((), ()), (0, 1), 1, 0), [])

    def walked(self, standing, pair, p, q):
        """The chain by the words of the document, with the calls found as entries of dicts."""
        by_out, by_in = {o: (i, o) for i, o in standing[p]}, {i: (i, o) for i, o in standing[q]}
        if pair[1] not in by_out or pair[0] not in by_in:
            return []
        steps = [(by_out[pair[1]], p, q)]
        while True:
            call = steps[-1][0]
            found = by_in.get(call[0]) if len(steps) % 2 else by_out.get(call[1])
            if found is None:
                return steps
            steps.append((found, q, p) if len(steps) % 2 else (found, p, q))

    def assert_facts(self, exchange, standing, pair, p, q):
        steps = chain(exchange, standing, pair, p, q)
        self.assertEqual(steps, self.walked(standing, pair, p, q))
        self.assertTrue(all(call[0] != pair[0] for call, _, _ in steps))
        later = standing
        for call, k, _ in steps:
            later = taken(later, call, k)
        for call, _, to in steps:
            later = added(later, call, to)
        self.assertIs(is_standing(exchange, later), True)
        self.assertEqual(pairs_of(later), pairs_of(standing))
        if steps:
            self.assertIn(p, frees(later, pair))
        else:
            self.assertTrue({p, q} & set(frees(standing, pair)))
        return len(steps)

    def test_the_facts_in_small_exchanges(self):
        lengths = Counter()
        for exchange in small_exchanges(150) + [Exchange((2, 2, 1), (2, 2, 1), 2)]:
            listed = all_standings(exchange)
            for standing in listed[::1 + len(listed) // 100]:
                for pair in exchange.pairs():
                    least = None
                    if pair in opens(exchange, standing):
                        least = least_moves(exchange, standing, pair)
                    for p in range(exchange.middles):
                        for q in range(exchange.middles):
                            if pair[0] in dict(standing[p]):
                                error = caught(NoMiddle, lambda: chain(exchange, standing, pair, p, q))
                                self.assertEqual(error.thing, p)
                            elif pair[1] in dict(standing[q]).values():
                                error = caught(NoMiddle, lambda: chain(exchange, standing, pair, p, q))
                                self.assertEqual(error.thing, q)
                            else:
                                many = self.assert_facts(exchange, standing, pair, p, q)
                                lengths[many] += 1
                                if pair in opens(exchange, standing):
                                    self.assertLessEqual(least, many)
        self.assertGreaterEqual(set(lengths), {0, 1, 2, 3})


class MostMovesTest(unittest.TestCase):

    def test_small_exchanges(self):
        for exchange in small_exchanges(300) + [Exchange((2, 2, 1), (2, 2, 1), 2), Exchange((2, 2, 1), (3, 2, 1), 2)]:
            listed = all_standings(exchange)
            lots = by_calls(listed)
            most = 0
            for standing in sorted({shape_of(standing) for standing in listed}):
                for pair in opens(exchange, standing):
                    lot = lots.get(tuple(sorted(pairs_of(standing) + [pair])), [])
                    most = max(most, least_by_listing(lot, standing) or 0)
            self.assertEqual(most_moves(exchange), most)

    def test_written_out(self):
        self.assertEqual(most_moves(Exchange.square(2, 2, 2)), 1)
        self.assertEqual(most_moves(Exchange((2, 2, 1), (2, 2, 1), 2)), 2)
        # With one middle each barred call can be let by no move at all.
        self.assertEqual(most_moves(Exchange.square(2, 2, 1)), 0)

    def test_0_from_strict_on(self):
        for ins, outs in [((2, 2), (2, 2)), ((3, 1), (2,)), ((4,), (4,)), ((1, 1, 1), (1, 1, 1)), ((2, 1), (2, 2))]:
            for middles in range(strict(Exchange(ins, outs, 1)), 8):
                if middles < 5:
                    self.assertEqual(most_moves(Exchange(ins, outs, middles)), 0)

    def test_too_many_shapes(self):
        for exchange in [
            Exchange.square(4, 4, 7), Exchange.square(4, 1, 4), Exchange.square(4, 4, 4), Exchange.square(3, 3, 3),
        ]:
            self.assertEqual(caught(TooMany, lambda: most_moves(exchange)).most, 1000)
        self.assertEqual(most_moves(Exchange.square(4, 1, 3)), 0)


class InterfaceTest(unittest.TestCase):

    def test_each_function_is_defined_in_the_module(self):
        for name in "least_moves moved chain most_moves".split():
            self.assertEqual(getattr(moves, name).__module__, "callsthrough.moves")


if __name__ == "__main__":
    unittest.main()
