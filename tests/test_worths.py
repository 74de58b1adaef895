import unittest
from itertools import product

from callsthrough import worths
from callsthrough.errors import BadCount, NoRoom, NoShape, NotNext, TooMany
from callsthrough.exchanges import Exchange
from callsthrough.games import can_keep, kept
from callsthrough.moves import least_moves
from callsthrough.worths import calls_for, price, worth
from tests.helper import (
    GAMES, NO_ROOM, TOO_WIDE, caught, cycle_by_words, kinds, lets, nexts, odd_items, odd_values, opens, pairs_of,
    price_by_words, shape_of, shapes_of, shapes_up_to, small_exchanges, stands_among, worths_by_words,
)

SQUARE = Exchange.square(2, 2, 2)
MOST = 10 ** 30


class PriceTest(unittest.TestCase):

    def test_example_of_the_interface(self):
        shape = (((0, 0),), ((1, 1),))
        self.assertEqual(price(SQUARE, shape, (((0, 0), (1, 1)), ((0, 1),))), 1)
        self.assertEqual(worth(SQUARE, 1, start=shape), 1)

    def test_all_couples_of_shapes(self):
        seen = set()
        for exchange in small_exchanges(60) + GAMES[8:11] + [GAMES[19], Exchange((2, 2, 1), (2, 1, 2), 2)]:
            shapes = shapes_up_to(exchange, 1000)
            for shape, later in product(shapes[::1 + len(shapes) // 100], shapes):
                left = pairs_of(later)
                extra = [left.remove(pair) if pair in left else pair for pair in pairs_of(shape)]
                if len(left) != 1 or set(extra) - {None}:
                    self.assertIs(caught(NotNext, lambda: price(exchange, shape, later)).thing, later)
                    continue
                found = price(exchange, shape, later)
                self.assertEqual(found, price_by_words(shape, later))
                self.assertIs(found.__class__, int)
                self.assertIs(found == 0, later in nexts(shape, left[0]))
                seen.add(found)
        self.assertGreaterEqual(len(seen), 3, seen)

    def test_least_moves_is_the_least_price(self):
        for exchange in GAMES:
            for (shape, pair), prices in lets(exchange).items():
                self.assertEqual(least_moves(exchange, shape, pair), min(prices.values()))
                for later in prices:
                    self.assertEqual(price(exchange, shape, later), prices[later])

    def test_exchanges_with_thousands_of_shapes(self):
        exchange = Exchange.square(4, 4, 7)
        shape = ((), (), ((0, 0),), ((0, 0), (1, 1)), ((0, 1), (1, 0), (2, 2)), ((0, 2), (3, 3)), ((1, 1), (2, 0)))
        # Other loads for the last places of the shape, and the places that it gives up for them.
        for kept, others, moves in [
            (shape[:5], [((0, 2), (2, 0), (3, 3)), ((1, 1), (3, 2))], 1), (shape[1:], [((3, 2),)], 0),
            (shape[2:3] * 2, [((0, 1), (2, 2)), ((0, 2), (2, 0)), ((1, 0), (3, 3)), ((1, 1),), ((1, 1), (2, 3))], 4),
        ]:
            loads = list(kept) + others
            later = shape_of(loads)
            self.assertEqual(price(exchange, shape, later), moves)
            self.assertEqual(price_by_words(shape, later), moves)
        full = tuple(sorted(tuple((i, (i + turn) % 4) for i in range(4)) for turn in range(4)))
        lacking = tuple(sorted(full[:3] + (full[3][1:],)))
        for exchange in (Exchange.square(4, 4, 4), Exchange.square(4, 4, 6)):
            wide = ((),) * (exchange.middles - 4)
            self.assertEqual(price(exchange, wide + lacking, wide + full), 0)
            self.assertIs(caught(NotNext, lambda: price(exchange, wide + full, wide + full)).thing.__class__, tuple)

    def test_no_next_shapes(self):
        one, two = ((), ((0, 0),)), ((), ((0, 0), (1, 1)))
        for shape, later in [
            (one, one), (two, one), (((), ()), two), (one, ((), ((1, 1),))), (one, ((), ((0, 1), (1, 0)))),
            (((), ()), ((), ())), (two, (((0, 0),), ((0, 0),))), (one, ((), ((0, 1),))),
        ]:
            self.assertIs(caught(NotNext, lambda: price(SQUARE, shape, later)).thing, later)

    def test_odd_values_in_their_order(self):
        one, two = ((), ((0, 0),)), ((), ((0, 0), (1, 1)))
        odd = odd_values() + odd_items(two) + [two[::-1], (((1, 1),), ((0, 0),)), ((), ()) + ((),), ((), ((0, 2),))]
        odd += [((), ((0, 0), (0, 1))), ((), ((1, 1), (0, 0))), (((0, 0),), ((0, 0),), ((0, 0),)), ((),)]
        for exchange in (SQUARE, Exchange((2, 2), (2, 2), 2)):
            for value in odd:
                if stands_among(value, shapes_of(SQUARE)):
                    continue
                self.assertIs(caught(NoShape, lambda: price(exchange, value, two)).thing, value)
                self.assertIs(caught(NoShape, lambda: price(exchange, one, value)).thing, value)
                self.assertIs(caught(NoShape, lambda: price(exchange, two, value)).thing, value)
                self.assertIs(caught(NoShape, lambda: price(exchange, value, None)).thing, value)
        # A standing of the exchange with more calls than doors is none.
        narrow = Exchange((1, 1), (2, 1), 2)
        crowded = (((0, 0),), ((0, 1), (1, 0)))
        self.assertIs(caught(NoShape, lambda: price(narrow, one, crowded)).thing, crowded)

    def test_without_room_it_asks_for_the_shapes_alone(self):
        narrow = Exchange((2,), (2,), 1)
        self.assertEqual(price(narrow, ((),), (((0, 0),),)), 0)


def worth_by_words(exchange, calls, shape=None):
    """V(calls, shape) by the first rounds and how they come again."""
    begin, period, gain = cycle_by_words(exchange)
    shape = ((),) * exchange.middles if shape is None else shape
    turns, rest = divmod(max(calls - begin, 0), period)
    if calls < begin:
        return worths_by_words(exchange, 40)[calls][shape]
    return worths_by_words(exchange, 40)[begin + rest][shape] + turns * gain


class WorthTest(unittest.TestCase):

    def test_example_of_the_interface(self):
        told = (worth(SQUARE, 3), worth(SQUARE, 4), worth(SQUARE, 5), worth(SQUARE, 6), calls_for(SQUARE, 3))
        self.assertEqual(told, (0, 1, 1, 2, 8))

    def test_plain_rounds(self):
        greatest = 0
        for exchange in GAMES:
            rounds = worths_by_words(exchange, 40)
            none = ((),) * exchange.middles
            for calls in list(range(12)) + [25, 40]:
                found = worth(exchange, calls)
                self.assertEqual(found, rounds[calls][none])
                self.assertIs(found.__class__, int)
                greatest = max(greatest, found)
                for shape in list(rounds[calls])[::1 if calls < 4 else 5]:
                    self.assertEqual(worth(exchange, calls, start=shape), rounds[calls][shape])
                self.assertEqual(worth(exchange, calls, start=None), found)
        self.assertGreater(greatest, 30)

    def test_great_numbers(self):
        for exchange in GAMES:
            for calls in [100, 101, 102, 10 ** 9 + 7, MOST - 2, MOST - 1, MOST]:
                self.assertEqual(worth(exchange, calls), worth_by_words(exchange, calls))
                for shape in list(worths_by_words(exchange, 40)[0])[::7]:
                    self.assertEqual(worth(exchange, calls, start=shape), worth_by_words(exchange, calls, shape))
        self.assertEqual(worth(SQUARE, MOST), MOST // 2 - 1)

    def test_no_calls_need_no_moves(self):
        for exchange in GAMES:
            for shape in shapes_up_to(exchange, 100):
                self.assertEqual(worth(exchange, 0, start=shape), 0)

    def test_no_moves_from_the_shapes_of_kept(self):
        for exchange in GAMES:
            lot = kept(exchange)
            for shape in shapes_up_to(exchange, 100):
                self.assertIs(worth(exchange, MOST, start=shape) == 0, shape in lot)
            self.assertIs(worth(exchange, MOST) == 0, can_keep(exchange))

    def test_a_sum_is_worth_at_least_the_sum(self):
        for exchange in GAMES:
            told = [worth(exchange, calls) for calls in range(25)]
            self.assertEqual(told, sorted(told))
            for one, other in product(range(12), range(12)):
                self.assertGreaterEqual(told[one + other], told[one] + told[other])

    def test_bad_counts(self):
        for exchange in [SQUARE] + NO_ROOM + TOO_WIDE:
            for value in odd_values() + [MOST + 1, -MOST, "3", (3,), [3], {3: 3}]:
                if isinstance(value, int) and not isinstance(value, bool) and 0 <= value <= MOST:
                    continue
                self.assertIs(caught(BadCount, lambda: worth(exchange, value)).thing, value)
                self.assertIs(caught(BadCount, lambda: worth(exchange, value, start=7)).thing, value)
                self.assertIs(caught(BadCount, lambda: calls_for(exchange, value)).thing, value)

    def test_bad_starts(self):
        right = (((0, 0),), ((0, 1), (1, 0)))
        for value in odd_values() + odd_items(right) + [right[::-1], (), ((),), ((), (), ())]:
            if value is None or stands_among(value, shapes_of(SQUARE)):
                continue
            self.assertIs(caught(NoShape, lambda: worth(SQUARE, 3, start=value)).thing, value)
            self.assertIs(caught(NoShape, lambda: worth(SQUARE, 0, start=value)).thing, value)
        for exchange in NO_ROOM + TOO_WIDE:
            self.assertEqual(caught(NoShape, lambda: worth(exchange, 0, start=7)).thing, 7)

    def test_the_start_is_passed_by_its_name(self):
        with self.assertRaises(TypeError):
            worth(SQUARE, 3, ((), ()))

    def test_no_room_and_too_many(self):
        for exchange in NO_ROOM:
            for work in (worth, calls_for):
                for number in (0, 1, MOST):
                    error = caught(NoRoom, lambda: work(exchange, number))
                    self.assertEqual(error.middles, exchange.middles)
            start = ((),) * exchange.middles
            self.assertEqual(caught(NoRoom, lambda: worth(exchange, 0, start=start)).middles, exchange.middles)
        for exchange in TOO_WIDE:
            for work in (worth, calls_for):
                for number in (0, 1, MOST):
                    self.assertEqual(caught(TooMany, lambda: work(exchange, number)).most, 100)
            start = ((),) * exchange.middles
            self.assertEqual(caught(TooMany, lambda: worth(exchange, 0, start=start)).most, 100)

    def test_100_shapes_are_let(self):
        # With middles enough no exchange has 101 or 102 shapes.
        for ins, outs, middles in [((3, 2), (3, 1, 1), 3), ((1, 4, 4), (1, 3), 4), ((1, 1, 1), (2, 2, 1), 2)]:
            exchange = Exchange(ins, outs, middles)
            self.assertEqual(len(shapes_up_to(exchange, 1000)), 100)
            self.assertEqual(worth(exchange, 5), worths_by_words(exchange, 5)[5][((),) * middles])
            calls_for(exchange, 5)
        for ins, outs, middles in [((1, 2), (2, 2, 1, 1), 3), ((4, 4), (2, 1, 1), 4), ((2, 2), (1, 1, 1, 1), 2)]:
            exchange = Exchange(ins, outs, middles)
            self.assertIn(len(shapes_up_to(exchange, 1000)), (103, 104, 105, 106, 107))
            self.assertEqual(caught(TooMany, lambda: worth(exchange, 0)).most, 100)
            self.assertEqual(caught(TooMany, lambda: calls_for(exchange, 0)).most, 100)


class CallsForTest(unittest.TestCase):

    def test_the_least_number_of_calls(self):
        seen = set()
        for exchange in GAMES:
            for moves in list(range(9)) + [50, 51, 52, 10 ** 12 + 5, MOST - 1, MOST]:
                found = calls_for(exchange, moves)
                seen.add(found is None)
                self.assertIs(found is None, moves > 0 and can_keep(exchange))
                if found is not None:
                    self.assertIs(found.__class__, int)
                    self.assertGreaterEqual(worth_by_words(exchange, found), moves)
                    self.assertTrue(found == 0 or worth_by_words(exchange, found - 1) < moves)
        self.assertEqual(seen, {True, False})

    def test_small_numbers_against_worth(self):
        for exchange in GAMES:
            told = [worth(exchange, calls) for calls in range(30)]
            for moves in range(told[-1] + 1):
                self.assertEqual(calls_for(exchange, moves), min(n for n in range(30) if told[n] >= moves))

    def test_answers_beyond_the_bound(self):
        self.assertEqual(calls_for(SQUARE, MOST), 2 * MOST + 2)
        self.assertEqual(calls_for(SQUARE, 1), 4)

    def test_no_moves(self):
        for exchange in GAMES:
            self.assertEqual(calls_for(exchange, 0), 0)
            self.assertEqual(kinds(calls_for(exchange, 0)), int)


class InterfaceTest(unittest.TestCase):

    def test_each_function_is_defined_in_the_module(self):
        for name in "price worth calls_for".split():
            self.assertEqual(getattr(worths, name).__module__, "callsthrough.worths")

    def test_the_number_of_shapes_does_not_stop_the_price(self):
        for exchange in TOO_WIDE + NO_ROOM:
            none = ((),) * exchange.middles
            for pair in opens(exchange, none):
                self.assertEqual(price(exchange, none, none[1:] + ((pair,),)), 0)


if __name__ == "__main__":
    unittest.main()
