import unittest

from callsthrough import games
from callsthrough.counts import degree, strict
from callsthrough.errors import BadRule, TooMany
from callsthrough.exchanges import Exchange
from callsthrough.games import can_keep, foe, keeper, kept, least_for, least_middles
from callsthrough.judged import bars
from callsthrough.papers import foe_fault, keep_fault
from callsthrough.rules import Rule
from callsthrough.standings import all_shapes
from tests.helper import (
    added, caught, ends, foe_fault_by_words, frees, kinds, nexts, odd_values, opens, shape_of, shapes_of,
    small_exchanges, taken,
)

WORDS = ("first", "last", "fullest", "emptiest", "busy")
GREAT = [
    Exchange.square(4, 4, 7), Exchange.square(4, 1, 4), Exchange.square(4, 4, 4), Exchange.square(3, 3, 3),
    Exchange.square(4, 4, 3),
]
# Exchanges with many shapes, but not too many.
WIDE = [
    Exchange.square(2, 2, 2), Exchange.square(2, 2, 3), Exchange((2, 2, 1), (2, 2, 1), 2), Exchange.square(4, 1, 3),
    Exchange((3, 2), (3, 2), 3), Exchange((3, 3), (3, 3), 3), Exchange((2, 1, 1), (3, 3, 2, 1), 3),
    Exchange((2, 2), (2, 2, 1), 3), Exchange((3, 1), (3, 2), 4), Exchange((4, 4), (4, 1), 4),
]


def kept_by_taking_away(exchange, shapes):
    """Take away shapes until nothing changes."""
    lot = set(shapes)
    while True:
        bad = {
            shape for shape in lot
            if not all(later in lot for later in ends(shape).values())
            or not all(lot & set(nexts(shape, pair)) for pair in opens(exchange, shape))
        }
        if not bad:
            return sorted(lot)
        lot -= bad


class KeptTest(unittest.TestCase):

    def test_examples_of_the_interface(self):
        exchange = Exchange((2, 1), (2, 1), 2)
        self.assertEqual((can_keep(exchange), len(kept(exchange)), least_middles(exchange)), (True, 13, 2))

    def test_small_exchanges(self):
        seen = set()
        for exchange in small_exchanges(300):
            wanted = kept_by_taking_away(exchange, shapes_of(exchange))
            found = kept(exchange)
            self.assertEqual(found, wanted)
            self.assertEqual(kinds(found), kinds(wanted))
            self.assertIs(can_keep(exchange), wanted != [])
            self.assertIs(((),) * exchange.middles in wanted, wanted != [])
            seen.add((wanted != [], len(wanted) == len(shapes_of(exchange))))
        self.assertEqual(seen, {(True, True), (True, False), (False, False)})

    def test_wide_exchanges(self):
        for exchange in WIDE:
            wanted = kept_by_taking_away(exchange, all_shapes(exchange))
            self.assertEqual(kept(exchange), wanted)
            self.assertIs(can_keep(exchange), wanted != [])

    def test_all_shapes_are_kept_from_strict_on(self):
        for ins, outs in [((1,), (1,)), ((2, 1), (2, 1)), ((2, 2), (2, 2)), ((3,), (3,)), ((4,), (4, 4))]:
            for middles in range(strict(Exchange(ins, outs, 1)), 8):
                exchange = Exchange(ins, outs, middles)
                self.assertEqual(kept(exchange), all_shapes(exchange))

    def test_the_list_is_new_each_time(self):
        exchange = Exchange((2, 1), (2, 1), 2)
        first = kept(exchange)
        first.clear()
        self.assertEqual(len(kept(exchange=exchange)), 13)
        none = kept(Exchange.square(2, 2, 2))
        self.assertEqual(none, [])
        none.append(1)
        self.assertEqual(kept(Exchange.square(2, 2, 2)), [])

    def test_too_many_shapes(self):
        for exchange in GREAT:
            for work in (kept, can_keep, keeper, foe):
                self.assertEqual(caught(TooMany, lambda: work(exchange)).most, 1000)
        for work in (kept, can_keep, keeper, foe):
            work(Exchange.square(4, 1, 3))
            work(Exchange((2, 1, 1), (3, 3, 2, 1), 3))


class KeeperTest(unittest.TestCase):

    def assert_keeper(self, exchange):
        table = keeper(exchange)
        if not can_keep(exchange):
            self.assertIsNone(table)
            return
        self.assertIs(table.__class__, dict)
        rule = Rule(exchange, table)
        lot = kept(exchange)
        self.assertIsNone(keep_fault(exchange, lot, table))
        for shape in lot:
            for pair in opens(exchange, shape):
                k = rule(shape, pair)
                self.assertIn(shape_of(added(shape, pair, k)), lot)
        shapes = all_shapes(exchange)
        keys = [(shape, pair) for shape in shapes for pair in opens(exchange, shape) if frees(shape, pair)]
        self.assertEqual(sorted(table), keys)
        self.assertEqual(kinds(sorted(table.items())), kinds([(key, table[key]) for key in keys]))
        try:
            self.assertIsNone(bars(rule))
        except TooMany as e:
            self.assertEqual(e.most, 2000)

    def test_small_exchanges(self):
        for exchange in small_exchanges(300):
            self.assert_keeper(exchange)

    def test_wide_exchanges(self):
        for exchange in WIDE:
            self.assert_keeper(exchange)

    def test_none_where_no_way_of_picking_keeps(self):
        self.assertIsNone(keeper(Exchange.square(2, 2, 2)))
        self.assertIsNotNone(keeper(Exchange.square(2, 2, 3)))
        # With one middle a second call of the same switch is barred.
        self.assertIsNone(keeper(Exchange((2,), (2,), 1)))

    def test_the_dict_is_new_each_time(self):
        exchange = Exchange((2, 1), (2, 1), 2)
        table = keeper(exchange)
        same = dict(table)
        table.clear()
        self.assertEqual(keeper(exchange=exchange), same)


class FoeTest(unittest.TestCase):

    def assert_foe(self, exchange, shapes):
        papers = foe(exchange)
        if can_keep(exchange):
            self.assertIsNone(papers)
            return
        self.assertEqual([papers.__class__, len(papers)], [tuple, 2])
        ranks, moves = papers
        self.assertEqual([ranks.__class__, moves.__class__], [dict, dict])
        self.assertEqual(sorted(ranks), sorted(moves))
        self.assertLessEqual(set(ranks), set(shapes))
        self.assertEqual({str(kinds(shape)) for shape in ranks} - {str(kinds(shape)) for shape in shapes}, set())
        self.assertIsNone(foe_fault_by_words(exchange, shapes, ranks, moves))
        self.assertIsNone(foe_fault(exchange, ranks, moves))
        for move in moves.values():
            self.assertIn(move[0], ("call", "end"))

    def test_small_exchanges(self):
        for exchange in small_exchanges(300):
            self.assert_foe(exchange, shapes_of(exchange))

    def test_wide_exchanges(self):
        for exchange in WIDE:
            self.assert_foe(exchange, all_shapes(exchange))

    def test_each_way_of_picking_comes_to_a_barred_call(self):
        # Followed against each of the words, the moves end in a call without a free middle.
        for exchange in [Exchange.square(2, 2, 2), Exchange((3, 3), (3, 3), 3), Exchange((2, 2, 1), (2, 2, 1), 2)]:
            ranks, moves = foe(exchange)
            for word in WORDS:
                rule = Rule(exchange, word)
                shape = ((),) * exchange.middles
                for _ in range(ranks[shape] + 1):
                    move = moves[shape]
                    k = rule(shape, move[1]) if move[0] == "call" else None
                    if move[0] == "end":
                        shape = shape_of(taken(shape, move[1], shape.index(move[2])))
                    elif k is None:
                        break
                    else:
                        shape = shape_of(added(shape, move[1], k))
                self.assertEqual((move[0], k), ("call", None))

    def test_the_dicts_are_new_each_time(self):
        exchange = Exchange.square(2, 2, 2)
        ranks, moves = foe(exchange)
        same = dict(ranks), dict(moves)
        ranks.clear()
        moves.clear()
        self.assertEqual(foe(exchange=exchange), same)


def least_by_counting(exchange, is_enough):
    for middles in range(degree(exchange), strict(exchange)):
        if is_enough(exchange.with_middles(middles)):
            return middles
    return strict(exchange)


class LeastTest(unittest.TestCase):
    DOORS = [
        ((1,), (1,)), ((2,), (2,)), ((2, 1), (2, 1)), ((2, 2), (2, 2)), ((3, 1), (2, 2)), ((2, 2), (3, 1, 1)),
        ((3,), (2, 2)), ((1, 1, 1), (2, 1)), ((2, 1, 1), (2, 1)), ((3, 2), (3, 1)), ((1, 1, 1), (1, 1, 1)),
    ]

    def test_examples_of_the_interface(self):
        exchange = Exchange((2, 1), (2, 1), 5)
        told = (least_middles(exchange), least_for(exchange, "fullest"), least_for(exchange, "emptiest"))
        self.assertEqual(told, (2, 2, 3))

    def test_least_middles(self):
        seen = set()
        for ins, outs in self.DOORS:
            exchange = Exchange(ins, outs, 1)
            wanted = least_by_counting(exchange, lambda wider: kept_by_taking_away(wider, all_shapes(wider)) != [])
            self.assertEqual({least_middles(exchange.with_middles(many)) for many in range(1, 8)}, {wanted})
            self.assertEqual(kinds(least_middles(exchange)), int)
            seen.add((wanted > degree(exchange), wanted < strict(exchange)))
        self.assertEqual(seen, {(False, False), (False, True), (True, False)})

    def test_least_for(self):
        for ins, outs in self.DOORS:
            exchange = Exchange(ins, outs, 1)
            for word in WORDS:
                wanted = least_by_counting(exchange, lambda wider: bars(Rule(wider, word)) is None)
                self.assertEqual({least_for(exchange.with_middles(many), word) for many in range(1, 8)}, {wanted})
                self.assertEqual(kinds(least_for(exchange=exchange, word=word)), int)
                self.assertLessEqual(degree(exchange), least_middles(exchange))
                self.assertLessEqual(least_middles(exchange), wanted)
                self.assertLessEqual(wanted, strict(exchange))

    def test_strict_without_a_look_at_the_shapes(self):
        # In each of these the degree is strict, and there are too many shapes and standings.
        for ins, outs in [((1,) * 4, (1,) * 4), ((4, 4, 4, 4), (1, 1, 1, 1)), ((1, 1, 1, 1), (4, 4, 4, 1))]:
            exchange = Exchange(ins, outs, 7)
            self.assertEqual(degree(exchange), strict(exchange))
            for middles in range(1, 8):
                self.assertEqual(least_middles(exchange.with_middles(middles)), strict(exchange))
                for word in WORDS:
                    self.assertEqual(least_for(exchange.with_middles(middles), word), strict(exchange))
        self.assertEqual(caught(TooMany, lambda: can_keep(Exchange((4,) * 4, (1,) * 4, 4))).most, 1000)

    def test_strict_where_the_numbers_below_do_not_do(self):
        for ins, outs, numbers in [((4, 2), (4, 4, 4), (4, 6)), ((3, 2, 2), (2, 2, 1), (3, 4))]:
            exchange = Exchange(ins, outs, 1)
            self.assertEqual((degree(exchange), least_middles(exchange)), numbers)
            self.assertEqual(caught(TooMany, lambda: can_keep(exchange.with_middles(numbers[1]))).most, 1000)
        exchange = Exchange((4, 3), (3, 2), 1)
        for word in ("first", "last"):
            self.assertEqual((degree(exchange), least_for(exchange, word)), (4, 5))
            self.assertEqual(caught(TooMany, lambda: bars(Rule(exchange.with_middles(5), word))).most, 2000)

    def test_too_many(self):
        for exchange in [Exchange.square(4, 4, 1), Exchange.square(3, 3, 7), Exchange.square(4, 2, 2)]:
            self.assertEqual(caught(TooMany, lambda: least_middles(exchange)).most, 1000)
            for word in WORDS:
                self.assertEqual(caught(TooMany, lambda: least_for(exchange, word)).most, 2000)

    def test_bad_words(self):
        for value in odd_values() + ["First", "first ", "", WORDS, list(WORDS), ("first",), "table", {"first": 1}]:
            if value != "first":
                for exchange in [Exchange((2, 1), (2, 1), 1), Exchange.square(4, 4, 7), Exchange.square(4, 1, 1)]:
                    self.assertIs(caught(BadRule, lambda: least_for(exchange, value)).key, value)

    def test_too_many_as_soon_as_a_number_that_is_asked_raises_it(self):
        for exchange in [Exchange((3, 3), (3, 3), 1), Exchange((3, 3, 1), (3, 2), 1), Exchange((3, 2, 1), (3, 2), 1)]:
            self.assert_as_asked(exchange, can_keep, least_middles)
            for word in WORDS:
                self.assert_as_asked(
                    exchange, lambda wider: bars(Rule(wider, word)) is None, lambda wider: least_for(wider, word)
                )

    def assert_as_asked(self, exchange, is_enough, work):
        for middles in range(degree(exchange), strict(exchange)):
            try:
                if is_enough(exchange.with_middles(middles)):
                    self.assertEqual(work(exchange), middles)
                    return
            except TooMany as e:
                self.assertEqual(caught(TooMany, lambda: work(exchange)).most, e.most)
                return
        self.assertEqual(work(exchange), strict(exchange))


class InterfaceTest(unittest.TestCase):

    def test_each_function_is_defined_in_the_module(self):
        for name in "kept can_keep keeper foe least_middles least_for".split():
            self.assertEqual(getattr(games, name).__module__, "callsthrough.games")


if __name__ == "__main__":
    unittest.main()
