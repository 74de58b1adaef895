import unittest
from itertools import product

from callsthrough import counts
from callsthrough.counts import arranged, barring, busiest, degree, strict
from callsthrough.errors import BadCalls, NoPair
from callsthrough.exchanges import Exchange
from callsthrough.standings import all_shapes, barred, is_standing
from tests.helper import (
    all_loads, all_standings, caught, frees, kinds, nested, no_integers, odd_integers, odd_values, opens, pairs_of,
    small_exchanges,
)

GREATEST = [Exchange.square(4, 4, 1), Exchange((4, 4), (4, 4), 1), Exchange((4, 4, 4, 4), (4, 3), 1)]


def counts_within(doors):
    return product(*[range(many + 1) for many in doors])


def busiest_by_counting(exchange, pair):
    """The greatest number over all numbers of calls at the two switches, while both have a free door."""
    i, o = pair
    most = 0
    other_outs = [doors for at, doors in enumerate(exchange.outs) if at != o]
    other_ins = [doors for at, doors in enumerate(exchange.ins) if at != i]
    for leaving in {sum(numbers) for numbers in counts_within(other_outs)}:
        for coming in {sum(numbers) for numbers in counts_within(other_ins)}:
            for both in range(4):
                if leaving + both < exchange.ins[i] and coming + both < exchange.outs[o]:
                    most = max(most, leaving + coming + both)
    return most


def sides(most_switches, most_doors):
    return [side for many in range(1, most_switches + 1) for side in product(range(1, most_doors + 1), repeat=many)]


def all_lots(exchange):
    """All lots of calls within the doors, ascending."""
    found = [[]]
    for pair in exchange.pairs():
        found = [lot + [pair] * many for lot in found for many in range(5) if fits(exchange, lot + [pair] * many)]
    return found


def fits(exchange, lot):
    ins = [len([pair for pair in lot if pair[0] == i]) for i in range(len(exchange.ins))]
    outs = [len([pair for pair in lot if pair[1] == o]) for o in range(len(exchange.outs))]
    return all(a <= b for a, b in zip(ins, exchange.ins)) and all(a <= b for a, b in zip(outs, exchange.outs))


def most_at_a_switch(lot):
    return max([0] + [len([pair for pair in lot if pair[side] == at]) for side in (0, 1) for at in range(4)])


class NumbersTest(unittest.TestCase):

    def test_example_of_the_interface(self):
        exchange = Exchange((2, 3), (2, 2), 3)
        told = (busiest(exchange, (0, 0)), busiest(exchange, (1, 0)), strict(exchange), degree(exchange))
        self.assertEqual(told, (2, 3, 4, 3))

    def test_busiest_and_strict_by_counting(self):
        for ins in sides(3, 3):
            for outs in sides(2, 4) + [(4, 4, 4, 4), (1, 1, 1, 1), (4, 1, 2, 3)]:
                exchange = Exchange(ins, outs, 1)
                wanted = {pair: busiest_by_counting(exchange, pair) for pair in exchange.pairs()}
                for pair in wanted:
                    self.assertEqual(busiest(exchange, pair), wanted[pair])
                    self.assertEqual(busiest(exchange.turned(), pair[::-1]), wanted[pair])
                self.assertEqual(strict(exchange), max(wanted.values()) + 1)

    def test_written_out(self):
        for ins, outs, many in [
            ((1,), (1,), 0), ((4,), (4,), 3), ((4,), (1,), 0), ((2,), (3,), 1), ((4, 4), (4, 4), 6), ((4, 1), (4,), 3),
            ((4, 1), (4, 1), 4), ((4,), (1, 1), 1), ((1, 4, 4, 4), (4,), 3),
        ]:
            self.assertEqual(busiest(Exchange(ins, outs, 2), (0, 0)), many, (ins, outs))

    def test_degree(self):
        for ins, outs, wanted in [
            ((1,), (1,), 1), ((4,), (4,), 4), ((4,), (1,), 1), ((4,), (1, 1), 2), ((4,), (1, 4), 4),
            ((3, 2), (4, 4), 4), ((1, 1), (4, 4), 2), ((1, 1, 1), (4,), 3), ((2, 3), (2, 2), 3),
            ((4, 4, 4, 4), (4, 4, 4, 4), 4),
        ]:
            self.assertEqual(degree(Exchange(ins, outs, 1)), wanted, (ins, outs))
            self.assertEqual(degree(Exchange(outs, ins, 1)), wanted, (ins, outs))

    def test_degree_is_the_least_number_for_every_lot(self):
        for ins in sides(2, 3):
            for outs in sides(2, 3):
                exchange = Exchange(ins, outs, 1)
                self.assertEqual(degree(exchange), max(most_at_a_switch(lot) for lot in all_lots(exchange)))

    def test_they_do_not_depend_on_the_middles(self):
        for exchange in GREATEST + [Exchange((2, 3), (2, 2), 3), Exchange((1,), (1,), 1)]:
            told = set()
            for middles in range(1, 8):
                same = exchange.with_middles(middles)
                told.add((strict(same), degree(same), *[busiest(same, pair) for pair in same.pairs()]))
            self.assertEqual(len(told), 1)

    def test_degree_is_at_most_strict_and_both_are_middles(self):
        for ins in sides(4, 4)[::3]:
            for outs in sides(4, 4)[::7]:
                exchange = Exchange(ins, outs, 1)
                self.assertLessEqual(1, degree(exchange))
                self.assertLessEqual(degree(exchange), strict(exchange))
                self.assertLessEqual(strict(exchange), 7)
                self.assertEqual(kinds([strict(exchange), degree(exchange)]), (list, [int, int]))

    def test_no_pair(self):
        exchange = Exchange((2, 3), (2, 2), 3)
        odd = [(0,), (0, 0, 0), (2, 0), (0, 2), (-1, 0), (True, 0), (0, False), [0, 0], (0, None), (10 ** 40, 0)]
        for value in odd + odd_values():
            self.assertIs(caught(NoPair, lambda: busiest(exchange, value)).thing, value)

    def test_arguments_by_name(self):
        exchange = Exchange((2, 3), (2, 2), 3)
        self.assertEqual(busiest(exchange=exchange, pair=(1, 0)), 3)
        self.assertEqual((strict(exchange=exchange), degree(exchange=exchange)), (4, 3))
        self.assertEqual(len(barring(exchange=exchange)), 2)
        self.assertEqual(arranged(exchange=exchange, pairs=[]), ((), (), ()))


class BarringTest(unittest.TestCase):

    def assert_barring(self, exchange):
        told = barring(exchange)
        if exchange.middles >= strict(exchange):
            self.assertIsNone(told)
            return
        self.assertEqual(told.__class__, tuple)
        standing, pair = told
        self.assertIs(is_standing(exchange, standing), True)
        self.assertIn(pair, opens(exchange, standing))
        self.assertEqual(kinds(pair), (tuple, [int, int]))
        self.assertEqual(frees(standing, pair), [])
        self.assertIs(barred(exchange, standing, pair), True)

    def test_every_number_of_middles(self):
        for ins in sides(4, 4)[::5]:
            for outs in sides(4, 4)[::11]:
                for middles in range(1, 8):
                    self.assert_barring(Exchange(ins, outs, middles))

    def test_the_greatest_exchanges(self):
        for exchange in GREATEST:
            for middles in range(1, 8):
                self.assert_barring(exchange.with_middles(middles))
        self.assertIsNotNone(barring(Exchange.square(4, 4, 6)))
        self.assertIsNone(barring(Exchange.square(4, 4, 7)))

    def test_none_just_if_no_standing_of_the_listing_bars(self):
        for exchange in small_exchanges():
            some = [
                1 for standing in all_standings(exchange) for pair in opens(exchange, standing)
                if frees(standing, pair) == []
            ]
            self.assertIs(barring(exchange) is None, some == [])
            self.assert_barring(exchange)


class ArrangedTest(unittest.TestCase):

    def assert_arranged(self, exchange, lot):
        given = list(lot)
        standing = arranged(exchange, given)
        self.assertEqual(given, lot)
        if most_at_a_switch(lot) > exchange.middles:
            self.assertIsNone(standing)
        else:
            self.assertIs(is_standing(exchange, standing), True)
            self.assertEqual(pairs_of(standing), sorted(lot))

    def test_all_lots_of_small_exchanges(self):
        for ins, outs in [((2, 2), (2, 2)), ((3, 1), (2, 2)), ((4,), (2, 1, 1)), ((2, 2, 1), (1, 2, 2)), ((1,), (1,))]:
            exchange = Exchange(ins, outs, 1)
            for lot in all_lots(exchange):
                for middles in range(1, 5):
                    self.assert_arranged(exchange.with_middles(middles), lot)
                    self.assert_arranged(exchange.with_middles(middles), lot[::-1])
                    self.assert_arranged(exchange.with_middles(middles), lot[1::2] + lot[::2])

    def test_great_lots(self):
        rows = [
            [(i, (i + k) % 4) for k in range(4) for i in range(4)], [(i, i) for i in range(4)] * 4,
            [(i, (i * k) % 4) for i in range(4) for k in (1, 3)], [(i, o) for i in range(4) for o in range(4)],
            [(i, (i + k * k) % 4) for i in range(4) for k in range(4)],
        ]
        for lot in rows:
            for step in (1, 3, 5, 7, 9, 11):
                turned = [lot[at * step % len(lot)] for at in range(len(lot))]
                if fits(Exchange.square(4, 4, 1), turned):
                    for middles in range(1, 8):
                        self.assert_arranged(Exchange.square(4, 4, middles), turned)

    def test_the_lots_that_stand_are_those_of_the_listing(self):
        for exchange in small_exchanges(60):
            stands = {tuple(pairs_of(standing)) for standing in all_standings(exchange)}
            for lot in all_lots(exchange):
                self.assertIs(arranged(exchange, lot) is not None, tuple(lot) in stands)

    def test_no_list(self):
        for value in no_integers() + odd_integers() + [((0, 0),), {(0, 0): 1}, "00"]:
            if not isinstance(value, list):
                self.assertEqual(caught(BadCalls, lambda: arranged(Exchange.square(2, 2, 2), value)).at, -1)

    def test_the_first_bad_index(self):
        exchange = Exchange((2, 1), (1, 3), 2)
        for lot, at in [
            ([(0, 0), (0, 1), (0, 1)], 2), ([(0, 0), (1, 0)], 1), ([(1, 1), (0, 1), (1, 1), None], 2),
            ([(0, 0), (2, 0)], 1), ([(0, 2)], 0), ([(1, 1)] * 100, 1), ([(0, 1), (0, 1), (1, 1), (1, 1)], 3),
            ([(0, 0), (0, 0)], 1), ([[0, 0]], 0), ([(0, 0), (True, 1)], 1), ([(0, 1), (0, False)], 1),
            ([(0, 1, 0)], 0), ([(0,)], 0), ([(0, 1), (0, 1), (1, 1), ()], 3), ([-1], 0), ([(-1, 0)], 0),
        ]:
            given = list(lot)
            self.assertEqual(caught(BadCalls, lambda: arranged(exchange, given)).at, at, lot)
            self.assertEqual(given, lot)

    def test_no_pair_at_each_index(self):
        exchange = Exchange.square(2, 2, 3)
        right = [(0, 0), (1, 1), (0, 1)]
        for value in odd_values() + [nested(lambda value: [value])]:
            for at in range(4):
                lot = right[:at] + [value] + right[at:]
                self.assertEqual(caught(BadCalls, lambda: arranged(exchange, lot)).at, at)

    def test_a_bad_index_comes_before_a_switch_with_too_many_calls(self):
        exchange = Exchange.square(2, 3, 1)
        self.assertIsNone(arranged(exchange, [(0, 0), (0, 1)]))
        self.assertEqual(caught(BadCalls, lambda: arranged(exchange, [(0, 0), (0, 1), None])).at, 2)

    def test_the_standing_has_no_more_middles_than_the_exchange(self):
        for middles in range(1, 8):
            self.assertEqual(arranged(Exchange((1,), (1,), middles), []), ((),) * middles)
        self.assertEqual(arranged(Exchange((3,), (3,), 3), [(0, 0)] * 3), (((0, 0),),) * 3)


class InterfaceTest(unittest.TestCase):

    def test_each_function_is_defined_in_the_module(self):
        for name in "busiest strict barring degree arranged".split():
            self.assertEqual(getattr(counts, name).__module__, "callsthrough.counts")

    def test_facts_about_loads_hold_for_the_listing(self):
        # With degree many middles each lot stands, with fewer some lot does not.
        exchange = Exchange((2, 2), (2, 1), 2)
        self.assertEqual(degree(exchange), 2)
        self.assertEqual(len(all_loads(exchange)), 7)
        self.assertTrue(all(arranged(exchange, lot) is not None for lot in all_lots(exchange)))
        self.assertFalse(all(arranged(exchange.with_middles(1), lot) is not None for lot in all_lots(exchange)))
        self.assertEqual({len(one) for one in all_shapes(exchange)}, {2})


if __name__ == "__main__":
    unittest.main()
