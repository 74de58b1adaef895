import unittest
from fractions import Fraction

from callsthrough import means
from callsthrough.errors import NoRoom, TooMany
from callsthrough.exchanges import Exchange
from callsthrough.games import can_keep
from callsthrough.means import lower_fault, lower_paper, mean, upper_fault, upper_paper
from callsthrough.shares import Share
from callsthrough.worths import worth
from tests.helper import (
    GAMES, NO_ROOM, TOO_WIDE, caught, cycle_by_words, ends, kinds, lets, moves_from, no_integers, odd_items,
    odd_values, opens, shapes_up_to, small_exchanges, stands_among, worths_by_words,
)

SQUARE = Exchange.square(2, 2, 2)
NONE = ((), ())
SMALL = [exchange for exchange in GAMES if len(shapes_up_to(exchange, 100)) < 45]


def upper_fault_by_words(exchange, share, heights, table):
    """The faults of an upper paper, clause by clause."""
    if not isinstance(heights, dict) or not isinstance(table, dict):
        return ("form",)
    shapes, letting = shapes_up_to(exchange, 100), lets(exchange)
    for shape in shapes:
        if kinds(heights.get(shape)) is not int:
            return ("height", shape)
    for shape in shapes:
        for pair, load in sorted(ends(shape)):
            if heights[ends(shape)[(pair, load)]] > heights[shape]:
                return ("end", shape, pair, load)
        for pair in opens(exchange, shape):
            later = table.get((shape, pair))
            if not stands_among(later, letting[(shape, pair)]):
                return ("next", shape, pair)
            gain = share.bottom * letting[(shape, pair)][later] - share.top
            if gain + heights[later] > heights[shape]:
                return ("price", shape, pair)
    return None


def lower_fault_by_words(exchange, share, heights, moves):
    """The faults of a lower paper, clause by clause."""
    if not isinstance(heights, dict) or not isinstance(moves, dict):
        return ("form",)
    shapes, letting = shapes_up_to(exchange, 100), lets(exchange)
    for shape in shapes:
        if kinds(heights.get(shape)) is not int:
            return ("height", shape)
    for shape in shapes:
        move = moves.get(shape)
        if not stands_among(move, moves_from(exchange, shape)):
            return ("move", shape)
        prices = {ends(shape)[move[1:]]: None} if move[0] == "end" else letting[(shape, move[1])]
        for after in sorted(prices):
            gain = 0 if move[0] == "end" else share.bottom * prices[after] - share.top
            if gain + heights[after] < heights[shape]:
                return ("step", shape, after)
    return None


class MeanTest(unittest.TestCase):

    def test_example_of_the_interface(self):
        share = mean(SQUARE)
        self.assertEqual(((share.top, share.bottom), upper_fault(SQUARE, share, {}, {})), ((1, 2), ("height", NONE)))

    def test_rounds_of_the_tests_own(self):
        seen = set()
        for exchange in GAMES:
            _, calls, moves = cycle_by_words(exchange)
            share = mean(exchange)
            self.assertIs(share.__class__, Share)
            wanted = Fraction(moves, calls)
            self.assertEqual((share.top, share.bottom), (wanted.numerator, wanted.denominator))
            seen.add((share.top, share.bottom))
        self.assertEqual(seen, {(0, 1), (1, 2), (1, 1), (2, 3), (1, 4), (3, 5)})

    def test_mean_is_0_just_if_can_keep(self):
        told = set()
        for exchange in GAMES + small_exchanges(60):
            try:
                share = mean(exchange)
            except NoRoom:
                continue
            self.assertIs(share == Share(0), can_keep(exchange))
            told.add(share == Share(0))
            for calls in (1, 2, 3, 10, 1000, 10 ** 30):
                self.assertFalse((share * calls).below(worth(exchange, calls)))
        self.assertEqual(told, {True, False})

    def test_one_more_middle_never_makes_it_greater(self):
        for exchange in GAMES:
            shares = [mean(exchange)]
            for middles in range(exchange.middles + 1, 8):
                try:
                    shares.append(mean(exchange.with_middles(middles)))
                except TooMany:
                    break
            for less, more in zip(shares, shares[1:]):
                self.assertFalse(less.below(more))

    def test_turned_exchanges_have_the_same_mean(self):
        for exchange in GAMES:
            self.assertEqual(mean(exchange.turned()), mean(exchange))


class PapersTest(unittest.TestCase):

    def test_they_have_no_fault(self):
        for exchange in GAMES:
            share, shapes = mean(exchange), shapes_up_to(exchange, 100)
            keys = [(shape, pair) for shape in shapes for pair in opens(exchange, shape)]
            for work, fault_of, wanted in [
                (upper_paper, upper_fault, keys), (lower_paper, lower_fault, shapes),
            ]:
                paper = work(exchange)
                self.assertEqual([paper.__class__, len(paper)], [tuple, 2])
                heights, others = paper
                self.assertEqual([heights.__class__, others.__class__], [dict, dict])
                self.assertEqual((sorted(heights), sorted(others)), (shapes, sorted(wanted)))
                self.assertEqual({kinds(height) for height in heights.values()}, {int})
                self.assertEqual(str(kinds(sorted(heights))), str(kinds(shapes)))
                self.assertEqual(str(kinds(sorted(others))), str(kinds(sorted(wanted))))
                self.assertIsNone(fault_of(exchange, share, heights, others))
                for more in (1, -1000, 10 ** 40):
                    raised = {shape: heights[shape] + more for shape in heights}
                    self.assertIsNone(fault_of(exchange, share, raised, others))

    def test_by_the_tests_own_walk(self):
        for exchange in SMALL:
            share = mean(exchange)
            self.assertIsNone(upper_fault_by_words(exchange, share, *upper_paper(exchange)))
            self.assertIsNone(lower_fault_by_words(exchange, share, *lower_paper(exchange)))

    def test_papers_are_new_each_time(self):
        for work in (upper_paper, lower_paper):
            first = work(SQUARE)
            same = dict(first[0]), dict(first[1])
            first[0].clear()
            first[1].clear()
            self.assertEqual(work(SQUARE), same)
            self.assertEqual(work(exchange=SQUARE), same)

    def test_shares_that_differ_but_little(self):
        for exchange in GAMES:
            share = mean(exchange)
            heights, table = upper_paper(exchange)
            low, moves = lower_paper(exchange)
            for turns in (1, 7, 10 ** 12):
                # The tops below have no factor in common with this bottom.
                many = share.bottom * turns
                greater = Share(share.top * many + 1, share.bottom * many)
                less = Share(share.top * many - 1, share.bottom * many)
                self.assertEqual((greater.bottom, less.bottom), (share.bottom * many, share.bottom * many))
                wide = {shape: many * height for shape, height in heights.items()}
                deep = {shape: many * height for shape, height in low.items()}
                self.assertIsNone(upper_fault(exchange, greater, wide, table))
                self.assertEqual(upper_fault(exchange, less, wide, table)[0], "price")
                self.assertIsNone(lower_fault(exchange, less, deep, moves))
                self.assertEqual(lower_fault(exchange, greater, deep, moves)[0], "step")

    def test_what_the_papers_show(self):
        for exchange in GAMES:
            share = mean(exchange)
            heights, _ = upper_paper(exchange)
            low, _ = lower_paper(exchange)
            least, greatest = min(heights.values()), max(low.values())
            for calls, worths in enumerate(worths_by_words(exchange, 40)):
                for shape in worths:
                    self.assertLessEqual(share.bottom * worths[shape], share.top * calls + heights[shape] - least)
                    self.assertGreaterEqual(share.bottom * worths[shape], share.top * calls + low[shape] - greatest)


class FaultsTest(unittest.TestCase):

    def assert_upper(self, exchange, share, heights, table):
        before = dict(heights), dict(table)
        wanted = upper_fault_by_words(exchange, share, heights, table)
        found = upper_fault(exchange, share, heights, table)
        self.assertEqual(found, wanted)
        self.assertEqual(kinds(found), kinds(wanted))
        self.assertEqual((heights, table), before)
        return found and found[0]

    def assert_lower(self, exchange, share, heights, moves):
        before = dict(heights), dict(moves)
        wanted = lower_fault_by_words(exchange, share, heights, moves)
        found = lower_fault(exchange, share, heights, moves)
        self.assertEqual(found, wanted)
        self.assertEqual(kinds(found), kinds(wanted))
        self.assertEqual((heights, moves), before)
        return found and found[0]

    def test_heights_changed(self):
        upper, lower = set(), set()
        # The mean of the last one is 2 / 3.
        for exchange in SMALL[4:6] + [Exchange((4, 4), (4, 1), 4)]:
            share = mean(exchange)
            heights, table = upper_paper(exchange)
            low, moves = lower_paper(exchange)
            for shape in list(heights)[::1 + len(heights) // 9]:
                for more in (-1, 1, 3, -10 ** 30, 10 ** 30):
                    upper.add(self.assert_upper(exchange, share, {**heights, shape: heights[shape] + more}, table))
                    lower.add(self.assert_lower(exchange, share, {**low, shape: low[shape] + more}, moves))
        self.assertEqual(upper, {"end", "price", None})
        self.assertEqual(lower, {"step", None})

    def test_shares_changed(self):
        upper, lower = set(), set()
        for exchange in SMALL[3:7]:
            share = mean(exchange)
            heights, table = upper_paper(exchange)
            low, moves = lower_paper(exchange)
            for other in [
                Share(0), Share(1), Share(-1), Share(1, 3), Share(2, 3), Share(10 ** 40, 3), Share(3, 10 ** 40),
                Share(-10 ** 40, 7), Share(10 ** 20 + 1, 2 * 10 ** 20), Share(10 ** 20 - 1, 2 * 10 ** 20),
            ]:
                upper.add(self.assert_upper(exchange, other, heights, table))
                lower.add(self.assert_lower(exchange, other, low, moves))
                if other.below(share):
                    self.assertEqual(upper_fault(exchange, other, heights, table)[0], "price")
                if share.below(other):
                    self.assertEqual(lower_fault(exchange, other, low, moves)[0], "step")
        self.assertEqual((upper, lower), ({"price", None}, {"step", None}))

    def test_missing_and_odd_heights(self):
        share = mean(SQUARE)
        heights, table = upper_paper(SQUARE)
        low, moves = lower_paper(SQUARE)
        for shape in heights:
            less = {other: heights[other] for other in heights if other != shape}
            self.assertEqual(upper_fault(SQUARE, share, less, table), ("height", shape))
            self.assertEqual(upper_fault(SQUARE, share, less, {}), ("height", shape))
            self.assertEqual(lower_fault(SQUARE, share, less, moves), ("height", shape))
        shape = list(heights)[5]
        for value in no_integers():
            self.assertEqual(upper_fault(SQUARE, share, {**heights, shape: value}, table), ("height", shape))
            self.assertEqual(lower_fault(SQUARE, share, {**low, shape: value}, moves), ("height", shape))
            self.assertEqual(lower_fault(SQUARE, share, {**low, shape: value, NONE: None}, moves), ("height", NONE))

    def test_odd_entries_of_the_table(self):
        share = mean(SQUARE)
        heights, table = upper_paper(SQUARE)
        letting = lets(SQUARE)
        seen = set()
        for key in table:
            others = [later for later in heights if later not in letting[key]]
            for value in odd_values()[::4] + odd_items(table[key])[::5] + others + list(letting[key]):
                seen.add(self.assert_upper(SQUARE, share, heights, {**table, key: value}))
            less = {other: table[other] for other in table if other != key}
            self.assertEqual(upper_fault(SQUARE, share, heights, less), ("next", *key))
        key = (((), ((0, 0),)), (1, 1))
        for value in odd_values() + odd_items(table[key]) + [table[key][::-1], NONE, key[0]]:
            if not stands_among(value, letting[key]):
                self.assertEqual(upper_fault(SQUARE, share, heights, {**table, key: value}), ("next", *key))
        self.assertEqual(seen, {"next", "price", None})

    def test_odd_moves(self):
        share = mean(SQUARE)
        heights, moves = lower_paper(SQUARE)
        seen = set()
        for shape in moves:
            for move in moves_from(SQUARE, shape):
                seen.add(self.assert_lower(SQUARE, share, heights, {**moves, shape: move}))
            less = {other: moves[other] for other in moves if other != shape}
            self.assertEqual(lower_fault(SQUARE, share, heights, less), ("move", shape))
        self.assertEqual(seen, {"step", None})
        shape = (((0, 0),), ((1, 1),))
        end = ("end", (0, 0), ((0, 0),))
        odd = odd_values() + odd_items(("call", (0, 1))) + odd_items(end) + [
            ("call", (2, 0)), ("call", (0, 1), ()), ("end", (0, 1), ((0, 0),)), ("end", (0, 0), ((1, 1),)), ("end", 0),
            ("end", ((0, 0), ((0, 0),))), ("call",), ("end", (0, 0)), ("ends", (0, 0), ((0, 0),)),
        ]
        for move in odd:
            if not stands_among(move, moves_from(SQUARE, shape)):
                fault = lower_fault(SQUARE, share, heights, {**moves, shape: move})
                self.assertEqual(fault, ("move", shape), move)

    def test_the_first_of_several(self):
        share = mean(SQUARE)
        heights, table = upper_paper(SQUARE)
        low, moves = lower_paper(SQUARE)
        one = ((), ((0, 0),))
        for fault_of in (upper_fault, lower_fault):
            self.assertEqual(fault_of(SQUARE, share, None, {}), ("form",))
            self.assertEqual(fault_of(SQUARE, share, {}, None), ("form",))
            self.assertEqual(fault_of(SQUARE, share, {}, {}), ("height", NONE))
            self.assertEqual(fault_of(SQUARE, share, {NONE: 0}, {}), ("height", one))
        # Ends of a shape come before its calls, and shapes one after another.
        flat = {shape: 0 for shape in heights}
        self.assertEqual(upper_fault(SQUARE, share, flat, {}), ("next", NONE, (0, 0)))
        high = {**flat, NONE: 5}
        self.assertEqual(upper_fault(SQUARE, share, high, {}), ("next", NONE, (0, 0)))
        full = {(shape, pair): list(lets(SQUARE)[(shape, pair)])[0] for shape, pair in table}
        self.assertEqual(upper_fault(SQUARE, share, high, full), ("end", one, (0, 0), ((0, 0),)))
        first = {key: full[key] for key in full if key[0] == NONE}
        self.assertEqual(upper_fault(SQUARE, share, high, first), ("end", one, (0, 0), ((0, 0),)))
        self.assertEqual(upper_fault(SQUARE, share, flat, first), ("next", one, (0, 0)))
        self.assertEqual(upper_fault(SQUARE, Share(-1), flat, first), ("price", NONE, (0, 0)))
        self.assertEqual(upper_fault(SQUARE, Share(-1), {**flat, NONE: -1}, {}), ("next", NONE, (0, 0)))
        self.assertEqual(lower_fault(SQUARE, share, flat, {}), ("move", NONE))
        call = {NONE: ("call", (0, 0))}
        self.assertEqual(lower_fault(SQUARE, share, flat, call), ("step", NONE, one))
        self.assertEqual(lower_fault(SQUARE, Share(0), flat, call), ("move", one))
        # The call of (1, 1) leads to two shapes; the step names the first that is too low.
        along, apart = ((), ((0, 0), (1, 1))), (((0, 0),), ((1, 1),))
        calls = {NONE: ("call", (0, 0)), one: ("call", (1, 1))}
        self.assertEqual(lower_fault(SQUARE, Share(0), {**flat, along: -1}, calls), ("step", one, along))
        self.assertEqual(lower_fault(SQUARE, Share(0), {**flat, apart: -1}, calls), ("step", one, apart))
        self.assertEqual(lower_fault(SQUARE, Share(0), {**flat, apart: -1, along: -9}, calls), ("step", one, along))
        back = {NONE: ("call", (0, 0)), one: ("end", (0, 0), ((0, 0),))}
        self.assertEqual(lower_fault(SQUARE, Share(0), {**flat, NONE: -1}, back), ("step", one, NONE))

    def test_odd_values(self):
        share = mean(SQUARE)
        heights, table = upper_paper(SQUARE)
        low, moves = lower_paper(SQUARE)
        for value in odd_values():
            if isinstance(value, dict):
                self.assertEqual(upper_fault(SQUARE, share, value, table), ("height", NONE))
                self.assertEqual(upper_fault(SQUARE, share, heights, value), ("next", NONE, (0, 0)))
                self.assertEqual(lower_fault(SQUARE, share, value, moves), ("height", NONE))
                self.assertEqual(lower_fault(SQUARE, share, low, value), ("move", NONE))
                continue
            for other in (value, {}, heights):
                self.assertEqual(upper_fault(SQUARE, share, value, other), ("form",))
                self.assertEqual(upper_fault(SQUARE, share, other, value), ("form",))
                self.assertEqual(lower_fault(SQUARE, share, value, other), ("form",))
                self.assertEqual(lower_fault(SQUARE, share, other, value), ("form",))

    def test_other_keys_mean_nothing(self):
        share = mean(SQUARE)
        heights, table = upper_paper(SQUARE)
        low, moves = lower_paper(SQUARE)
        full = (((0, 1), (1, 0)), ((0, 0), (1, 1)))
        more = {None: None, "": (), full: "x", (NONE, (5, 5)): 3, 7: [], (): {}, (NONE, NONE): True}
        self.assertIsNone(upper_fault(SQUARE, share, {**heights, **more}, {**table, **more}))
        self.assertIsNone(lower_fault(SQUARE, share, {**low, **more}, {**moves, **more}))

    def test_no_room_and_too_many_whatever_the_others_are(self):
        share = Share(1, 2)
        for exchange in NO_ROOM + TOO_WIDE:
            for work in (mean, upper_paper, lower_paper):
                self.assert_refused(exchange, lambda: work(exchange))
            for work in (upper_fault, lower_fault):
                for value in odd_values() + [{}, {((),) * exchange.middles: 0}]:
                    self.assert_refused(exchange, lambda: work(exchange, share, value, {}))
                    self.assert_refused(exchange, lambda: work(exchange, share, {}, value))

    def assert_refused(self, exchange, work):
        if exchange in NO_ROOM:
            self.assertEqual(caught(NoRoom, work).middles, exchange.middles)
        else:
            self.assertEqual(caught(TooMany, work).most, 100)

    def test_100_shapes_are_let(self):
        for ins, outs, middles in [((3, 2), (3, 1, 1), 3), ((1, 4, 4), (1, 3), 4), ((1, 1, 1), (2, 2, 1), 2)]:
            exchange = Exchange(ins, outs, middles)
            self.assertEqual(len(shapes_up_to(exchange, 1000)), 100)
            self.assertIsNone(upper_fault(exchange, mean(exchange), *upper_paper(exchange)))
            self.assertIsNone(lower_fault(exchange, mean(exchange), *lower_paper(exchange)))


class InterfaceTest(unittest.TestCase):

    def test_each_function_is_defined_in_the_module(self):
        for name in "mean upper_paper lower_paper upper_fault lower_fault".split():
            self.assertEqual(getattr(means, name).__module__, "callsthrough.means")


if __name__ == "__main__":
    unittest.main()
