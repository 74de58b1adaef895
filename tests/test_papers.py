import unittest

from callsthrough import papers
from callsthrough.errors import TooMany
from callsthrough.exchanges import Exchange
from callsthrough.games import can_keep, foe, keeper, kept
from callsthrough.papers import foe_fault, keep_fault
from tests.helper import (
    added, caught, ends, foe_fault_by_words, frees, kinds, moves_from, nexts, odd_items, odd_values, opens, shape_of,
    shapes_of, shapes_up_to, small_exchanges, stands_among,
)

KEPT = Exchange((2, 1), (2, 1), 2)
LOST = Exchange.square(2, 2, 2)
NONE = ((), ())
GREAT = [Exchange.square(4, 4, 7), Exchange.square(4, 1, 4), Exchange.square(4, 4, 3), Exchange.square(3, 3, 3)]
WIDE = [
    Exchange.square(2, 2, 3), Exchange((2, 2, 1), (2, 2, 1), 2), Exchange.square(4, 1, 3), Exchange((3, 2), (3, 2), 3),
    Exchange((3, 3), (3, 3), 3), Exchange((2, 1, 1), (3, 3, 2, 1), 3), Exchange((3, 1), (3, 2), 4),
]


def keep_fault_by_words(exchange, shapes, table, all_of_them):
    """The faults of the papers of a keeper, clause by clause."""
    if not isinstance(shapes, list) or not isinstance(table, dict):
        return ("form",)
    for k, shape in enumerate(shapes):
        if not stands_among(shape, all_of_them):
            return ("shape", k)
    if ((),) * exchange.middles not in shapes:
        return ("empty",)
    for k, shape in enumerate(shapes):
        for pair in opens(exchange, shape):
            load = table.get((shape, pair))
            free = [middle for middle in frees(shape, pair) if stands_among(load, [shape[middle]])]
            if not free or shape_of(added(shape, pair, free[0])) not in shapes:
                return ("call", k, pair)
        for pair, load in sorted(ends(shape)):
            if ends(shape)[(pair, load)] not in shapes:
                return ("end", k, pair, load)
    return None


class KeepFaultTest(unittest.TestCase):

    def assert_judged(self, exchange, shapes, table, all_of_them):
        before = list(shapes), dict(table)
        wanted = keep_fault_by_words(exchange, shapes, table, all_of_them)
        found = keep_fault(exchange, shapes, table)
        self.assertEqual(found, wanted)
        self.assertEqual(kinds(found), kinds(wanted))
        self.assertEqual((shapes, table), before)
        return found

    def test_example_of_the_interface(self):
        self.assertEqual(keep_fault(KEPT, [], {}), ("empty",))

    def test_kept_and_keeper_have_no_fault(self):
        told = set()
        for exchange in small_exchanges(300) + WIDE:
            told.add(can_keep(exchange))
            if can_keep(exchange):
                shapes, table = kept(exchange), keeper(exchange)
                self.assertIsNone(keep_fault(exchange, shapes, table))
                self.assertIsNone(keep_fault(exchange, shapes[::-1], table))
                self.assertIsNone(keep_fault(exchange, shapes * 2, table))
        self.assertEqual(told, {True, False})

    def test_each_shape_left_out(self):
        seen = set()
        for exchange in small_exchanges(60):
            if not can_keep(exchange):
                continue
            shapes, table = kept(exchange), keeper(exchange)
            for at in range(len(shapes)):
                for rows in (shapes[:at] + shapes[at + 1:], (shapes[:at] + shapes[at + 1:])[::-1]):
                    fault = self.assert_judged(exchange, rows, table, shapes_of(exchange))
                    seen.add(fault and fault[0])
        self.assertEqual(seen, {"empty", "call", "end", None})

    def test_each_entry_spoiled(self):
        shapes, table = kept(KEPT), keeper(KEPT)
        listed = shapes_of(KEPT)
        for key, load in table.items():
            shape, pair = key
            index = shapes.index(shape) if shape in shapes else None
            busy = [other for other in shape if not frees((other,), pair)]
            for value in odd_items(load) + odd_values() + busy + [((0, 0), (1, 1))]:
                spoiled = {**table, key: value}
                if stands_among(value, [load]):
                    continue
                fault = self.assert_judged(KEPT, shapes, spoiled, listed)
                if index is not None and not stands_among(value, shape):
                    self.assertEqual(fault, ("call", index, pair))
            spoiled = {other: table[other] for other in table if other != key}
            fault = self.assert_judged(KEPT, shapes, spoiled, listed)
            self.assertEqual(fault, None if index is None else ("call", index, pair))

    def test_each_fault_alone(self):
        exchange = Exchange((2,), (1, 1), 2)
        one, other, both = ((), ((0, 0),)), ((), ((0, 1),)), (((0, 0),), ((0, 1),))
        shapes = [NONE, one, other, both]
        table = {(NONE, (0, 0)): (), (NONE, (0, 1)): (), (one, (0, 1)): (), (other, (0, 0)): ()}
        self.assertIsNone(keep_fault(exchange, shapes, table))
        self.assertEqual(keep_fault(exchange, tuple(shapes), table), ("form",))
        self.assertEqual(keep_fault(exchange, shapes, list(table.items())), ("form",))
        self.assertEqual(keep_fault(exchange, shapes + [((), ())[:1]], table), ("shape", 4))
        self.assertEqual(keep_fault(exchange, shapes + [both[::-1]], table), ("shape", 4))
        self.assertEqual(keep_fault(exchange, shapes[1:], table), ("empty",))
        self.assertEqual(keep_fault(exchange, [NONE, one, other], table), ("call", 1, (0, 1)))
        self.assertEqual(keep_fault(exchange, [both, NONE, one], table), ("end", 0, (0, 0), ((0, 0),)))
        self.assertEqual(keep_fault(exchange, shapes, {**table, (one, (0, 1)): ((0, 0),)}), ("call", 1, (0, 1)))
        self.assertEqual(keep_fault(exchange, shapes, {**table, (one, (0, 1)): []}), ("call", 1, (0, 1)))
        # One middle less: the second call has no free one, whatever is told.
        narrow = Exchange((2,), (1, 1), 1)
        only = (((0, 0),),)
        for load in ((), ((0, 0),), None):
            told = {(((),), (0, 0)): (), (((),), (0, 1)): (), (only, (0, 1)): load}
            self.assertEqual(keep_fault(narrow, [((),), only, (((0, 1),),)], told), ("call", 1, (0, 1)))

    def test_the_first_of_several(self):
        exchange = Exchange((2,), (1, 1), 2)
        one, other, both = ((), ((0, 0),)), ((), ((0, 1),)), (((0, 0),), ((0, 1),))
        self.assertEqual(keep_fault(exchange, None, None), ("form",))
        self.assertEqual(keep_fault(exchange, [7], None), ("form",))
        self.assertEqual(keep_fault(exchange, [both, 7, None], {}), ("shape", 1))
        self.assertEqual(keep_fault(exchange, [both], {}), ("empty",))
        self.assertEqual(keep_fault(exchange, [both, NONE], {}), ("end", 0, (0, 0), ((0, 0),)))
        self.assertEqual(keep_fault(exchange, [one, both, NONE], {}), ("call", 0, (0, 1)))
        self.assertEqual(keep_fault(exchange, [NONE, both], {}), ("call", 0, (0, 0)))
        self.assertEqual(keep_fault(exchange, [NONE, both], {(NONE, (0, 0)): ()}), ("call", 0, (0, 0)))
        table = {(NONE, (0, 0)): (), (NONE, (0, 1)): (), (one, (0, 1)): ()}
        self.assertEqual(keep_fault(exchange, [NONE, one, both], table), ("call", 0, (0, 1)))
        self.assertEqual(keep_fault(exchange, [one, both, NONE], table), ("end", 1, (0, 0), ((0, 0),)))
        self.assertEqual(keep_fault(exchange, [both, both, NONE, other], table), ("end", 0, (0, 1), ((0, 1),)))

    def test_ends_ascend_by_pair_and_load(self):
        exchange = Exchange((3, 1), (3, 1), 4)
        shape = ((), (), ((0, 0),), ((0, 0), (1, 1)))
        table = {}
        for pair in opens(exchange, shape):
            table[(shape, pair)] = ()
        listed = [shape, ((),) * 4] + [shape_of(added(shape, pair, 0)) for pair in opens(exchange, shape)]
        self.assertEqual(keep_fault(exchange, listed, table), ("end", 0, (0, 0), ((0, 0),)))
        listed.append(((), (), (), ((0, 0), (1, 1))))
        self.assertEqual(keep_fault(exchange, listed, table), ("end", 0, (0, 0), ((0, 0), (1, 1))))
        listed.append(((), (), ((0, 0),), ((1, 1),)))
        self.assertEqual(keep_fault(exchange, listed, table), ("end", 0, (1, 1), ((0, 0), (1, 1))))

    def test_odd_values(self):
        shapes, table = kept(KEPT), keeper(KEPT)
        for exchange in [KEPT, LOST] + GREAT:
            for value in odd_values():
                if not isinstance(value, list):
                    self.assertEqual(keep_fault(exchange, value, table), ("form",))
                if not isinstance(value, dict):
                    self.assertEqual(keep_fault(exchange, shapes, value), ("form",))

    def test_odd_items(self):
        shapes, table = kept(KEPT), keeper(KEPT)
        right = (((0, 0),), ((0, 1), (1, 0)))
        self.assertIn(right, shapes)
        odd = odd_items(right) + odd_values() + [right[::-1], (), ((),), ((), (), ()), (((0, 0),), ((0, 0),))[::-1]]
        odd += [(((0, 0),), ((1, 0), (0, 1))), ((), ((0, 0), (0, 1))), ((), ((0, 2),)), ((), ((-1, 0),))]
        for value in odd:
            if stands_among(value, shapes_of(KEPT)):
                continue
            for at in (0, 5, len(shapes)):
                self.assertEqual(keep_fault(KEPT, shapes[:at] + [value] + shapes[at:], table), ("shape", at))

    def test_entries_for_other_keys_mean_nothing(self):
        shapes, table = kept(KEPT), keeper(KEPT)
        more = {**table, None: 1, "": (), 7: [], ((), ()): 3, (NONE, (9, 9)): None, (NONE, (0, 0), 1): 5, True: {}}
        more.update({("x", ("y",)): 1, (NONE, "call"): ()})
        self.assertIsNone(keep_fault(KEPT, shapes, more))
        # The key is looked up as Python looks it up, but the entry has its kind.
        alike = {}
        for (shape, pair), load in table.items():
            flagged = tuple([tuple([(bool(i), bool(o)) for i, o in part]) for part in shape])
            alike[(flagged, (bool(pair[0]), bool(pair[1])))] = load
        self.assertIsNone(keep_fault(KEPT, shapes, alike))

    def test_nothing_is_raised_for_many_shapes(self):
        for exchange in GREAT:
            none = ((),) * exchange.middles
            self.assertEqual(keep_fault(exchange, [none], {}), ("call", 0, (0, 0)))
            self.assertEqual(keep_fault(exchange, [none], {(none, (0, 0)): ()}), ("call", 0, (0, 0)))
            one = none[1:] + (((0, 0),),)
            self.assertEqual(keep_fault(exchange, [none, one], {(none, (0, 0)): ()}), ("call", 0, (0, 1)))
            self.assertEqual(keep_fault(exchange, [], {}), ("empty",))

    def test_all_shapes_of_an_exchange_with_thousands(self):
        # All shapes stay within all shapes, where a call always has a free middle.
        exchange = Exchange.square(4, 1, 4)
        shapes = shapes_up_to(exchange, 10000)
        self.assertGreater(len(shapes), 1000)
        table = {(shape, pair): shape[frees(shape, pair)[0]] for shape in shapes for pair in opens(exchange, shape)}
        self.assertIsNone(keep_fault(exchange, shapes, table))
        self.assertEqual(keep_fault(exchange, shapes[:-1], table)[0], "call")


class FoeFaultTest(unittest.TestCase):

    def assert_judged(self, exchange, shapes, ranks, moves):
        before = dict(ranks), dict(moves)
        wanted = foe_fault_by_words(exchange, shapes, ranks, moves)
        found = foe_fault(exchange, ranks, moves)
        self.assertEqual(found, wanted)
        self.assertEqual(kinds(found), kinds(wanted))
        self.assertEqual((ranks, moves), before)
        return found

    def test_example_of_the_interface(self):
        self.assertEqual(foe_fault(KEPT, {NONE: 0}, {}), ("move", NONE))

    def test_foe_has_no_fault(self):
        for exchange in small_exchanges(300) + WIDE:
            if not can_keep(exchange):
                ranks, moves = foe(exchange)
                self.assertIsNone(foe_fault(exchange, ranks, moves))
                greater = {shape: 7 ** 90 + 1000 * rank ** 3 for shape, rank in ranks.items()}
                self.assertIsNone(foe_fault(exchange, greater, moves))
                backwards = {shape: ranks[shape] for shape in list(ranks)[::-1]}
                self.assertIsNone(foe_fault(exchange, backwards, moves))

    def test_each_rank_and_move_spoiled(self):
        seen = set()
        for exchange in [LOST, Exchange((2,), (2,), 1), Exchange((2, 1, 1), (2, 1), 2)]:
            shapes = shapes_of(exchange)
            ranks, moves = foe(exchange)
            for shape in ranks:
                for rank in (0, ranks[shape] + 1, ranks[shape] - 1, ranks[shape] + 10, None, True, -1, "1", (0,), []):
                    fault = self.assert_judged(exchange, shapes, {**ranks, shape: rank}, moves)
                    seen.add(fault and fault[0])
                less = {other: ranks[other] for other in ranks if other != shape}
                seen.add((self.assert_judged(exchange, shapes, less, moves) or [None])[0])
                less = {other: moves[other] for other in moves if other != shape}
                self.assertEqual(self.assert_judged(exchange, shapes, ranks, less), ("move", shape))
                for move in moves_from(exchange, shape):
                    fault = self.assert_judged(exchange, shapes, ranks, {**moves, shape: move})
                    seen.add(fault and fault[0])
        self.assertEqual(seen, {None, "empty", "rank", "step"})

    def test_odd_moves(self):
        ranks, moves = foe(LOST)
        shape = (((0, 0),), ((1, 1),))
        end = ("end", (0, 0), ((0, 0),))
        self.assertIn(shape, ranks)
        odd = odd_values() + odd_items(("call", (0, 1))) + odd_items(end) + [
            ("call", (2, 0)), ("call", (0, 1), ()), ("call",), ("end", (0, 1), ((0, 0),)), ("end", (0, 0), ((1, 1),)),
            ("end", (0, 0)), ("end", 0), ("end", (1, 0), ()), ("Call", (0, 1)), ("end", (0, 0), ((0, 0),), 0),
            ("end", ((0, 0), ((0, 0),))), ("call", (0, True)), ("call", (False, 1)), ("call", ((0, 1),)),
        ]
        for move in odd:
            if not stands_among(move, moves_from(LOST, shape)):
                self.assertEqual(foe_fault(LOST, ranks, {**moves, shape: move}), ("move", shape), move)
        # A pair whose switches have no free door is not open.
        full = (((0, 0), (1, 1)), ((0, 1), (1, 0)))
        for pair in LOST.pairs():
            fault = foe_fault(LOST, {NONE: 5, full: 0}, {NONE: ("call", (0, 0)), full: ("call", pair)})
            self.assertEqual(fault, ("step", NONE, ((), ((0, 0),))))
            fault = foe_fault(LOST, {**ranks, full: 10 ** 9}, {**moves, full: ("call", pair)})
            self.assertEqual(fault, ("move", full))

    def test_the_first_of_several(self):
        one = ((), ((0, 0),))
        call = ("call", (0, 0))
        self.assertEqual(foe_fault(LOST, [], {}), ("form",))
        self.assertEqual(foe_fault(LOST, {}, []), ("form",))
        self.assertEqual(foe_fault(LOST, {}, {}), ("empty",))
        self.assertEqual(foe_fault(LOST, {one: None}, {}), ("empty",))
        self.assertEqual(foe_fault(LOST, {one: None, NONE: -1}, {}), ("rank", NONE))
        self.assertEqual(foe_fault(LOST, {one: None, NONE: 1}, {}), ("rank", one))
        self.assertEqual(foe_fault(LOST, {one: 0, NONE: 1}, {}), ("move", NONE))
        self.assertEqual(foe_fault(LOST, {one: 1, NONE: 1}, {NONE: call}), ("step", NONE, one))
        self.assertEqual(foe_fault(LOST, {NONE: 1}, {NONE: call}), ("step", NONE, one))
        self.assertEqual(foe_fault(LOST, {one: 0, NONE: 1}, {NONE: call}), ("move", one))
        # Two next shapes: the first is of a lesser rank, or is not.
        moves = {NONE: call, one: ("call", (1, 1))}
        apart, along = (((0, 0),), ((1, 1),)), ((), ((0, 0), (1, 1)))
        self.assertLess(along, apart)
        self.assertEqual(foe_fault(LOST, {NONE: 5, one: 4}, moves), ("step", one, along))
        self.assertEqual(foe_fault(LOST, {NONE: 5, one: 4, along: 3}, moves), ("step", one, apart))
        self.assertEqual(foe_fault(LOST, {NONE: 5, one: 4, along: 3, apart: 3}, moves), ("move", along))
        ranks, right = foe(LOST)
        # In foe's ranks the shapes behind are lower.
        start = ranks[NONE] + 10
        high = {**ranks, NONE: start + 2, one: start + 1}
        self.assertEqual(foe_fault(LOST, {**high, apart: start + 1}, {**right, **moves}), ("step", one, apart))
        self.assertIsNone(foe_fault(LOST, high, {**right, **moves}))

    def test_an_end_leads_to_one_shape(self):
        one = ((), ((0, 0),))
        back = {NONE: ("call", (0, 0)), one: ("end", (0, 0), ((0, 0),))}
        self.assertEqual(foe_fault(LOST, {NONE: 5, one: 4}, back), ("step", one, NONE))
        self.assertEqual(foe_fault(LOST, {NONE: 4, one: 4}, back), ("step", NONE, one))

    def test_odd_values(self):
        ranks, moves = foe(LOST)
        for value in odd_values():
            if not isinstance(value, dict):
                self.assertEqual(foe_fault(LOST, value, moves), ("form",))
                self.assertEqual(foe_fault(LOST, ranks, value), ("form",))
                self.assertEqual(foe_fault(LOST, {}, value), ("form",))
            if not isinstance(value, int) or isinstance(value, bool) or value < 0:
                self.assertEqual(foe_fault(LOST, {**ranks, NONE: value}, moves), ("rank", NONE))

    def test_other_keys_mean_nothing(self):
        ranks, moves = foe(LOST)
        full = (((0, 0), (1, 1)), ((0, 1), (1, 0)))
        others = {None: -1, "": "", (): None, full[::-1]: -1, ((),): True, 7: -7, (((0, 0),), ()): None}
        shapes = [shape for shape in shapes_of(LOST) if shape not in ranks]
        self.assertIsNone(foe_fault(LOST, {**ranks, **others}, moves))
        self.assertIsNone(foe_fault(LOST, ranks, {**moves, **others, **{shape: None for shape in shapes}}))
        flagged = {
            tuple([tuple([(bool(i), bool(o)) for i, o in load]) for load in shape]): rank
            for shape, rank in ranks.items()
        }
        self.assertIsNone(foe_fault(LOST, flagged, moves))

    def test_no_papers_show_what_is_not_so(self):
        # Where can_keep is True, each lot of ranks has a fault.
        shapes = shapes_of(KEPT)
        for turn in range(5):
            ranks = {shape: len(shapes) - at for at, shape in enumerate(shapes)}
            choices = {shape: moves_from(KEPT, shape) for shape in shapes}
            moves = {shape: found[turn % len(found)] for shape, found in choices.items()}
            self.assertIsNotNone(self.assert_judged(KEPT, shapes, ranks, moves))

    def test_too_many_shapes_whatever_the_values(self):
        for exchange in GREAT:
            for value in odd_values() + [{}, {((),) * exchange.middles: 0}]:
                self.assertEqual(caught(TooMany, lambda: foe_fault(exchange, value, {})).most, 1000)
                self.assertEqual(caught(TooMany, lambda: foe_fault(exchange, {}, value)).most, 1000)
        thousand = Exchange((2, 1, 1), (3, 3, 2, 1), 3)
        self.assertEqual(foe_fault(thousand, {}, {}), ("empty",))

    def test_next_shapes_come_in_their_order(self):
        exchange = Exchange((2, 2, 1), (2, 2, 1), 3)
        shape = ((), ((0, 0),), ((1, 1),))
        for pair in opens(exchange, shape):
            laters = nexts(shape, pair)
            ranks = {((),) * 3: 9, shape: 5}
            moves = {((),) * 3: ("end", (0, 0), ()), shape: ("call", pair)}
            self.assertEqual(foe_fault(exchange, ranks, moves), ("move", ((),) * 3))
            moves[((),) * 3] = ("call", (0, 0))
            ranks[((), (), ((0, 0),))] = 8
            moves[((), (), ((0, 0),))] = ("call", (1, 1))
            ranks[((), (), ((0, 0), (1, 1)))] = 7
            moves[((), (), ((0, 0), (1, 1)))] = ("end", (0, 0), ((0, 0), (1, 1)))
            ranks[((), (), ((1, 1),))] = 6
            moves[((), (), ((1, 1),))] = ("call", (0, 0))
            for after in laters:
                fault = foe_fault(exchange, ranks, moves)
                self.assertEqual(fault, foe_fault_by_words(exchange, sorted(ranks), ranks, moves))
                ranks[after] = 4
                moves[after] = ("call", (0, 0))


class InterfaceTest(unittest.TestCase):

    def test_each_function_is_defined_in_the_module(self):
        for name in "keep_fault foe_fault".split():
            self.assertEqual(getattr(papers, name).__module__, "callsthrough.papers")


if __name__ == "__main__":
    unittest.main()
