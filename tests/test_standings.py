import unittest
from itertools import permutations

from callsthrough import standings
from callsthrough.errors import NoCall, NoDoor, NoMiddle, NoPair, NoStanding, TooMany
from callsthrough.exchanges import Exchange
from callsthrough.standings import (
    all_shapes, barred, calls, empty, free_doors, free_middles, is_shape, is_standing, shape, with_call, without_call,
)
from tests.helper import (
    added, all_loads, all_standings, caught, doors_of, frees, kinds, odd_items, odd_values, opens, pairs_of, shape_of,
    small_exchanges, taken, within_doors,
)

EXCHANGE = Exchange((2, 3, 1), (2, 1, 2), 3)
# Its input switch 0 and output switch 0 have no free door.
STANDING = (((0, 0), (1, 1)), ((1, 0), (2, 2)), ((0, 2),))
NO_PAIRS = [
    (0,), (0, 0, 0), (3, 0), (0, 3), (-1, 0), (0, -1), (True, 0), (0, True), (False, 0), (0, False), [0, 0], ["0", 0],
    (0, None), (0, "0"), ((0, 0),), (10 ** 40, 0), (0, 10 ** 5000), (-10 ** 40, 0), "00", {0: 0}, ([0], 0), (0, (0,)),
]
NO_STANDINGS = [
    # too few and too many loads
    STANDING[:2], STANDING + ((),), ((),) * 1000, ((), ()),
    # a load with a switch twice, with a pair twice, out of order
    (((0, 0), (0, 1)), (), ()), (((0, 0), (1, 0)), (), ()), (((0, 0), (0, 0)), (), ()),
    (((1, 1), (0, 0)), (), ()), (((0, 1), (2, 2), (1, 0)), (), ()), (((0, 0), (1, 1), (2, 2), (2, 2)), (), ()),
    # a switch with more calls than doors
    (((2, 0),), ((2, 2),), ()), (((0, 1),), ((1, 1),), ()), (((0, 0),), ((0, 1),), ((0, 2),)),
    (((0, 0),), ((1, 0),), ((2, 0),)),
    # a number or a pair in the place of a load or a pair
    (0, (), ()), ((0,), (), ()), ((0, 0), (), ()), ((0, 0), (1, 1), (2, 2)), (None, (), ()), ("", "", ""),
    ({}, {}, {}), ([], [], []), (((0, 0),), (), 7), ((((0, 0),),), (), ()),
]


def wrong_standings():
    found = NO_STANDINGS + odd_items(STANDING) + odd_values()
    return found + [(((0, 1), pair), (), ()) for pair in NO_PAIRS] + [((pair,), (), ()) for pair in NO_PAIRS]


def wrong_pairs():
    return NO_PAIRS + [value for value in odd_values() if value != (1, 2)]


class IsStandingTest(unittest.TestCase):

    def test_just_the_standings_of_the_listing(self):
        for exchange in small_exchanges(60):
            listed = all_standings(exchange)
            loads = all_loads(exchange)
            for standing in listed:
                self.assertIs(is_standing(exchange, standing), True)
            for standing in [(load,) * exchange.middles for load in loads]:
                self.assertIs(is_standing(exchange, standing), standing in listed)

    def test_wrong_values(self):
        for value in wrong_standings():
            self.assertIs(is_standing(EXCHANGE, value), False, value)

    def test_kinds_at_each_depth(self):
        self.assertIs(is_standing(EXCHANGE, STANDING), True)
        for value in [
            list(STANDING), (list(STANDING[0]),) + STANDING[1:], (([0, 0], (1, 1)),) + STANDING[1:],
            (((0, 0), (True, True)),) + STANDING[1:], (((False, 0), (1, 1)),) + STANDING[1:],
            (((0, 0), (1, True)),) + STANDING[1:], (((0, 0), 0),) + STANDING[1:],
        ]:
            self.assertIs(is_standing(EXCHANGE, value), False, value)

    def test_another_exchange(self):
        self.assertIs(is_standing(EXCHANGE.with_middles(2), STANDING), False)
        self.assertIs(is_standing(EXCHANGE.with_middles(4), STANDING), False)
        self.assertIs(is_standing(Exchange((1, 3, 1), (2, 1, 2), 3), STANDING), False)
        self.assertIs(is_standing(Exchange((2, 2, 1), (2, 1, 2), 3), STANDING), True)
        self.assertIs(is_standing(Exchange((2, 2, 1), (2, 1, 1), 3), STANDING), False)
        self.assertIs(is_standing(Exchange((2, 2), (2, 1, 2), 3), STANDING), False)

    def test_the_empty_standing(self):
        for middles in range(1, 8):
            exchange = Exchange((1, 4), (2,), middles)
            standing = empty(exchange)
            self.assertEqual(standing, ((),) * middles)
            self.assertEqual(kinds(standing), (tuple, [(tuple, [])] * middles))
            self.assertIs(is_standing(exchange, standing), True)
            self.assertIs(is_shape(exchange, standing), True)
            self.assertEqual(calls(exchange, standing), [])
            self.assertEqual(free_doors(exchange, standing), ([1, 4], [2]))

    def test_full_standings(self):
        full = tuple(tuple((i, (i + k) % 4) for i in range(4)) for k in range(4))
        self.assertIs(is_standing(Exchange.square(4, 4, 4), full), True)
        self.assertIs(is_standing(Exchange.square(4, 4, 7), full + ((), (), ())), True)
        self.assertIs(is_standing(Exchange.square(4, 4, 7), full + (((0, 0),), (), ())), False)
        self.assertIs(is_standing(Exchange((4, 4, 4, 3), (4,) * 4, 4), full), False)
        self.assertIs(is_standing(Exchange((4,) * 4, (4, 4, 3, 4), 4), full), False)


class ReadingTest(unittest.TestCase):

    def test_example_of_the_interface(self):
        exchange = Exchange.square(2, 2, 2)
        standing = with_call(exchange, (((0, 0),), ()), (1, 1), 1)
        self.assertEqual(standing, (((0, 0),), ((1, 1),)))
        self.assertIs(barred(exchange, standing, (0, 1)), True)
        self.assertIs(barred(exchange, standing, (0, 0)), False)

    def test_calls_with_a_pair_in_several_loads(self):
        exchange = Exchange((3, 2), (3, 2), 4)
        standing = (((0, 0), (1, 1)), (), ((0, 0),), ((0, 0), (1, 1)))
        self.assertEqual(calls(exchange, standing), [(0, 0), (0, 0), (0, 0), (1, 1), (1, 1)])
        self.assertEqual(free_doors(exchange, standing), ([0, 0], [0, 0]))
        self.assertEqual(free_middles(exchange, standing, (0, 0)), [1])
        self.assertEqual(free_middles(exchange, standing, (1, 0)), [1])
        self.assertEqual(free_middles(exchange, standing, (1, 1)), [1, 2])

    def test_doors_and_middles_of_one_standing(self):
        self.assertEqual(calls(EXCHANGE, STANDING), [(0, 0), (0, 2), (1, 0), (1, 1), (2, 2)])
        self.assertEqual(free_doors(EXCHANGE, STANDING), ([0, 1, 0], [0, 0, 0]))
        self.assertEqual(free_middles(EXCHANGE, STANDING, (1, 1)), [2])
        self.assertEqual(free_middles(EXCHANGE, STANDING, (2, 1)), [2])
        self.assertEqual(free_middles(EXCHANGE, STANDING, (0, 1)), [1])
        self.assertEqual(free_middles(EXCHANGE, STANDING, (2, 2)), [0])
        self.assertEqual(free_middles(EXCHANGE, STANDING, (0, 0)), [])
        # No switch of (0, 1) has a door, but middles are free for it: doors do not matter.
        self.assertIs(barred(EXCHANGE, STANDING, (0, 1)), False)
        # Neither doors nor middles: not barred, for want of a door.
        self.assertIs(barred(EXCHANGE, STANDING, (0, 0)), False)

    def test_barred_needs_a_door_at_each_switch(self):
        standing = (((0, 0),), ((1, 1),))
        for ins, outs, wanted in [
            ((2, 2), (2, 2), True), ((1, 2), (2, 2), False), ((2, 2), (2, 1), False), ((2, 1), (1, 2), True),
        ]:
            self.assertIs(barred(Exchange(ins, outs, 2), standing, (0, 1)), wanted)
        self.assertIs(barred(Exchange.square(2, 2, 3), standing + ((),), (0, 1)), False)

    def test_small_exchanges(self):
        for exchange in small_exchanges():
            for standing in all_standings(exchange):
                self.assertEqual(calls(exchange, standing), pairs_of(standing))
                self.assertEqual(free_doors(exchange, standing), doors_of(exchange, standing))
                for pair in exchange.pairs():
                    free = frees(standing, pair)
                    self.assertEqual(free_middles(exchange, standing, pair), free)
                    wanted = free == [] and pair in opens(exchange, standing)
                    self.assertIs(barred(exchange, standing, pair), wanted)

    def test_kinds_of_the_answers(self):
        pair = (tuple, [int, int])
        self.assertEqual(kinds(calls(EXCHANGE, STANDING)), (list, [pair] * 5))
        self.assertEqual(kinds(free_doors(EXCHANGE, STANDING)), (tuple, [(list, [int] * 3), (list, [int] * 3)]))
        self.assertEqual(kinds(free_middles(EXCHANGE, STANDING, (1, 1))), (list, [int]))

    def test_answers_are_new_each_time(self):
        for work in [
            lambda: calls(EXCHANGE, STANDING), lambda: free_middles(EXCHANGE, STANDING, (1, 1)),
            lambda: free_doors(EXCHANGE, STANDING)[0], lambda: free_doors(EXCHANGE, STANDING)[1],
            lambda: all_shapes(Exchange((2,), (1,), 2)),
        ]:
            first = work()
            kept = list(first)
            first.clear()
            self.assertEqual(work(), kept)
        self.assertEqual((EXCHANGE.ins, EXCHANGE.outs), ((2, 3, 1), (2, 1, 2)))

    def test_arguments_by_name(self):
        named = {"exchange": EXCHANGE, "standing": STANDING}
        self.assertIs(is_standing(exchange=EXCHANGE, thing=STANDING), True)
        self.assertIs(is_shape(exchange=EXCHANGE, thing=STANDING), False)
        self.assertEqual(empty(exchange=EXCHANGE), ((), (), ()))
        self.assertEqual(len(calls(**named)), 5)
        self.assertEqual(free_doors(**named)[0], [0, 1, 0])
        self.assertEqual(free_middles(pair=(1, 1), **named), [2])
        self.assertIs(barred(pair=(1, 1), **named), False)
        self.assertEqual(shape(**named), shape_of(STANDING))
        self.assertEqual(without_call(pair=(0, 2), k=2, **named)[2], ())
        self.assertEqual(with_call(exchange=EXCHANGE, standing=((), (), ()), pair=(0, 2), k=2)[2], ((0, 2),))
        self.assertEqual(len(all_shapes(exchange=Exchange((1,), (1,), 1))), 2)


class ErrorsTest(unittest.TestCase):

    def works(self):
        """All functions that take a standing, with the arguments behind it."""
        return [
            (calls, 0), (free_doors, 0), (shape, 0), (free_middles, 1), (barred, 1), (with_call, 2), (without_call, 2),
        ]

    def test_no_standing_comes_first(self):
        for value in wrong_standings():
            for work, more in self.works():
                for others in [((0, 0), 0), (None, None), ((9, 9), True)]:
                    error = caught(NoStanding, lambda: work(EXCHANGE, value, *others[:more]))
                    self.assertIs(error.thing, value)

    def test_no_pair_comes_next(self):
        for value in wrong_pairs():
            for work, more in self.works()[3:]:
                for k in (0, None, 10 ** 30):
                    error = caught(NoPair, lambda: work(EXCHANGE, STANDING, *(value, k)[:more]))
                    self.assertIs(error.thing, value)

    def test_no_door(self):
        for k in (0, 2, None, True, -1, 10 ** 30):
            self.assertEqual(caught(NoDoor, lambda: with_call(EXCHANGE, STANDING, (0, 0), k)).side, "in")
            self.assertEqual(caught(NoDoor, lambda: with_call(EXCHANGE, STANDING, (2, 1), k)).side, "in")
            self.assertEqual(caught(NoDoor, lambda: with_call(EXCHANGE, STANDING, (1, 1), k)).side, "out")
        # Without_call asks for no free door.
        self.assertEqual(without_call(EXCHANGE, STANDING, (0, 0), 0), (((1, 1),),) + STANDING[1:])

    def odd_middles(self):
        found = [value for value in odd_values() if value is False or value != 0]
        return found + [3, 4, -1, True, False, "0", "2", (2,), [2]]

    def test_no_middle_for_a_new_call(self):
        exchange = Exchange.square(3, 3, 3)
        standing = (((0, 0), (1, 1)), ((1, 0), (2, 2)), ((0, 2),))
        for value in self.odd_middles() + [0, 1]:
            error = caught(NoMiddle, lambda: with_call(exchange, standing, (1, 1), value))
            self.assertIs(error.thing, value)
        self.assertEqual(with_call(exchange, standing, (1, 1), 2), standing[:2] + (((0, 2), (1, 1)),))
        # A flag is no middle even where the number would be free.
        for value in (True, False):
            error = caught(NoMiddle, lambda: with_call(exchange, empty(exchange), (1, 1), value))
            self.assertIs(error.thing, value)

    def test_no_middle_and_no_call_of_an_old_call(self):
        for value in self.odd_middles():
            for pair in [(0, 0), (2, 1)]:
                error = caught(NoMiddle, lambda: without_call(EXCHANGE, STANDING, pair, value))
                self.assertIs(error.thing, value)
        for pair, k in [((0, 0), 1), ((0, 0), 2), ((2, 1), 0), ((0, 2), 0), ((1, 0), 0)]:
            self.assertIs(caught(NoCall, lambda: without_call(EXCHANGE, STANDING, pair, k)).thing, pair)

    def test_no_argument_is_changed(self):
        thing = [[[0, 0]], [], {0: [1]}]
        caught(NoStanding, lambda: with_call(EXCHANGE, thing, [0, 0], [1]))
        pair, k = [0, [0]], [2]
        caught(NoPair, lambda: with_call(EXCHANGE, STANDING, pair, k))
        caught(NoMiddle, lambda: without_call(EXCHANGE, STANDING, (0, 0), k))
        self.assertEqual((thing, pair, k), ([[[0, 0]], [], {0: [1]}], [0, [0]], [2]))


class ChangesTest(unittest.TestCase):

    def test_with_and_without_a_call_in_small_exchanges(self):
        for exchange in small_exchanges(60):
            for standing in all_standings(exchange):
                for pair in opens(exchange, standing):
                    for k in frees(standing, pair):
                        later = with_call(exchange, standing, pair, k)
                        self.assertEqual(later, added(standing, pair, k))
                        self.assertIs(within_doors(exchange, later), True)
                        self.assertEqual(without_call(exchange, later, pair, k), standing)
                for k, load in enumerate(standing):
                    for pair in load:
                        earlier = without_call(exchange, standing, pair, k)
                        self.assertEqual(earlier, taken(standing, pair, k))
                        self.assertEqual(kinds(earlier), kinds(taken(standing, pair, k)))

    def test_just_the_free_middles_take_a_call(self):
        for exchange in small_exchanges(60):
            for standing in all_standings(exchange):
                for pair in opens(exchange, standing):
                    for k in range(exchange.middles):
                        if k not in frees(standing, pair):
                            self.assertEqual(caught(NoMiddle, lambda: with_call(exchange, standing, pair, k)).thing, k)


class ShapesTest(unittest.TestCase):

    def test_shape_of_the_loads_in_every_order(self):
        loads = [(), (), ((0, 0), (1, 1)), ((0, 1),)]
        exchange = Exchange.square(2, 2, 4)
        found = {shape(exchange, row) for row in permutations(loads)}
        self.assertEqual(found, {((), (), ((0, 0), (1, 1)), ((0, 1),))})
        self.assertEqual(shape(EXCHANGE, STANDING), (((0, 0), (1, 1)), ((0, 2),), ((1, 0), (2, 2))))
        self.assertEqual([is_shape(exchange, row) for row in permutations(loads)].count(True), 2)

    def test_is_shape(self):
        for exchange in small_exchanges(60):
            for standing in all_standings(exchange):
                self.assertIs(is_shape(exchange, standing), standing == shape_of(standing))
                self.assertIs(is_shape(exchange, shape(exchange, standing)), True)
                self.assertIs(is_shape(exchange, list(standing)), False)

    def test_is_shape_of_odd_values(self):
        for value in wrong_standings() + [STANDING]:
            self.assertIs(is_shape(EXCHANGE, value), False, value)

    def test_all_shapes_of_small_exchanges(self):
        for exchange in small_exchanges(2000):
            wanted = sorted({shape_of(standing) for standing in all_standings(exchange)})
            found = all_shapes(exchange)
            self.assertEqual(found, wanted)
            self.assertEqual(kinds(found), kinds(wanted))

    def test_example_of_all_shapes(self):
        self.assertEqual(all_shapes(Exchange((1,), (2,), 2)), [((), ()), ((), ((0, 0),))])

    def test_many_shapes(self):
        shapes = all_shapes(Exchange.square(4, 1, 3))
        self.assertEqual(len(shapes), 977)
        self.assertEqual(shapes, sorted(set(shapes)))
        for one in shapes:
            self.assertIs(is_shape(Exchange.square(4, 1, 3), one), True)
        self.assertEqual(len(all_shapes(Exchange((2, 1, 1), (3, 3, 2, 1), 3))), 1000)

    def test_too_many_shapes(self):
        for exchange in [
            Exchange.square(4, 1, 4), Exchange.square(4, 4, 7), Exchange.square(4, 1, 7), Exchange.square(4, 4, 4),
            Exchange.square(4, 4, 3), Exchange.square(3, 3, 3), Exchange((4, 4), (4, 4, 4, 4), 7),
        ]:
            self.assertEqual(caught(TooMany, lambda: all_shapes(exchange)).most, 1000)


class InterfaceTest(unittest.TestCase):

    def test_each_function_is_defined_in_the_module(self):
        names = "is_standing empty calls free_doors free_middles barred with_call without_call is_shape shape"
        for name in names.split() + ["all_shapes"]:
            self.assertEqual(getattr(standings, name).__module__, "callsthrough.standings")


if __name__ == "__main__":
    unittest.main()
