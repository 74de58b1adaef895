"""The whole interface: its names, its arguments, and what holds for all of it."""

import inspect
import unittest
from itertools import product

from callsthrough import (
    ahead, back, counts, deeds, errors, exchanges, games, judged, live, means, moves, papers, rules, shares, standings,
    texts, versus, worths,
)
from callsthrough.errors import CallError
from callsthrough.exchanges import Exchange
from callsthrough.live import Desk
from callsthrough.rules import Rule
from callsthrough.shares import Share
from tests.helper import kinds, no_integers, odd_values

SQUARE = Exchange.square(2, 2, 2)
NARROW = Exchange((2, 1), (2, 1), 2)
STANDING = (((0, 0),), ((1, 1),))
ROW = [("call", (0, 0)), ("call", (1, 1)), ("end", 0)]
DIARY = [(("call", (0, 0)), None), (("call", (1, 1)), "let")]
FIRST, FULLEST = Rule(SQUARE, "first"), Rule(SQUARE, "fullest")
HALF = Share(1, 2)

# Module, class or None, name, arguments by their listed names, values for them.
LISTED = [
    (shares, None, "Share", "top bottom", (6, -4)), (shares, "Share", "below", "other", (HALF, 3)),
    (exchanges, None, "Exchange", "ins outs middles", ((2, 1), (2,), 3)),
    (exchanges, "Exchange", "with_middles", "middles", (SQUARE, 5)), (exchanges, "Exchange", "turned", "", (NARROW,)),
    (exchanges, "Exchange", "pairs", "", (NARROW,)),
    (exchanges, None, "Exchange.square", "size doors middles", (2, 3, 4)),
    (standings, None, "is_standing", "exchange thing", (SQUARE, STANDING)),
    (standings, None, "empty", "exchange", (SQUARE,)),
    (standings, None, "calls", "exchange standing", (SQUARE, STANDING)),
    (standings, None, "free_doors", "exchange standing", (SQUARE, STANDING)),
    (standings, None, "free_middles", "exchange standing pair", (SQUARE, STANDING, (0, 1))),
    (standings, None, "barred", "exchange standing pair", (SQUARE, STANDING, (0, 1))),
    (standings, None, "with_call", "exchange standing pair k", (SQUARE, STANDING, (1, 1), 0)),
    (standings, None, "without_call", "exchange standing pair k", (SQUARE, STANDING, (1, 1), 1)),
    (standings, None, "is_shape", "exchange thing", (SQUARE, STANDING)),
    (standings, None, "shape", "exchange standing", (SQUARE, STANDING[::-1])),
    (standings, None, "all_shapes", "exchange", (NARROW,)),
    (counts, None, "busiest", "exchange pair", (NARROW, (0, 1))), (counts, None, "strict", "exchange", (NARROW,)),
    (counts, None, "barring", "exchange", (NARROW,)), (counts, None, "degree", "exchange", (NARROW,)),
    (counts, None, "arranged", "exchange pairs", (NARROW, [(0, 0), (1, 0)])),
    (moves, None, "least_moves", "exchange standing pair", (SQUARE, STANDING, (0, 1))),
    (moves, None, "moved", "exchange standing pair", (SQUARE, STANDING, (0, 1))),
    (moves, None, "chain", "exchange standing pair p q", (SQUARE, STANDING, (0, 1), 1, 0)),
    (moves, None, "most_moves", "exchange", (SQUARE,)), (deeds, None, "deed_fault", "exchange deeds", (SQUARE, ROW)),
    (rules, None, "Rule", "exchange choice", (SQUARE, "busy")),
    (rules, "Rule", "__call__", "standing pair", (FIRST, STANDING, (1, 1))),
    (rules, None, "played", "rule deeds", (FIRST, ROW)), (judged, None, "closed", "rule", (FIRST,)),
    (judged, None, "bars", "rule", (FIRST,)), (judged, None, "safe_fault", "rule standings", (FIRST, [STANDING])),
    (games, None, "kept", "exchange", (NARROW,)), (games, None, "can_keep", "exchange", (NARROW,)),
    (games, None, "keeper", "exchange", (NARROW,)), (games, None, "foe", "exchange", (SQUARE,)),
    (games, None, "least_middles", "exchange", (NARROW,)),
    (games, None, "least_for", "exchange word", (NARROW, "last")),
    (papers, None, "keep_fault", "exchange shapes table", (NARROW, games.kept(NARROW), games.keeper(NARROW))),
    (papers, None, "foe_fault", "exchange ranks moves", (SQUARE, *games.foe(SQUARE))),
    (worths, None, "price", "exchange shape later", (SQUARE, STANDING, (((0, 0), (1, 1)), ((0, 1),)))),
    (worths, None, "calls_for", "exchange moves", (SQUARE, 9)), (means, None, "mean", "exchange", (SQUARE,)),
    (means, None, "upper_paper", "exchange", (SQUARE,)), (means, None, "lower_paper", "exchange", (SQUARE,)),
    (means, None, "upper_fault", "exchange share heights table", (SQUARE, HALF, *means.upper_paper(SQUARE))),
    (means, None, "lower_fault", "exchange share heights moves", (SQUARE, HALF, *means.lower_paper(SQUARE))),
    (versus, None, "parted", "one other", (FIRST, FULLEST)),
    (ahead, None, "fewest_lost", "exchange deeds", (SQUARE, ROW)),
    (ahead, None, "ahead_plan", "exchange deeds", (SQUARE, ROW)),
    (ahead, None, "plan_fault", "exchange deeds plan", (SQUARE, ROW, [0, 0])),
    (back, None, "can_be", "exchange diary", (SQUARE, DIARY)),
    (back, None, "shapes_that_fit", "exchange diary", (SQUARE, DIARY)),
    (back, None, "foretold", "exchange diary pair", (SQUARE, DIARY, (0, 1))), (live, None, "Desk", "rule", (FIRST,)),
    (texts, None, "exchange_text", "exchange", (NARROW,)),
    (texts, None, "standing_text", "exchange standing", (SQUARE, STANDING)),
    (texts, None, "deeds_text", "exchange deeds", (SQUARE, ROW)),
    (texts, None, "read_exchange", "text", ("2,2|1,3|4",)),
    (texts, None, "read_standing", "exchange text", (SQUARE, "0-0/1-1")),
    (texts, None, "read_deeds", "exchange text", (SQUARE, "call 0-0;end 0")),
]
DESK = [
    ("call", "pair", ((0, 0),)), ("force", "pair", ((1, 1),)), ("call", "pair", ((0, 1),)), ("standing", "", ()),
    ("up", "", ()), ("end", "n", (0,)), ("undo", "", ()), ("take_rule", "rule", (FULLEST,)),
    ("trial", "deeds", ([("call", (1, 0)), ("end", 0)],)),
]


def told(value):
    """An answer as a plain value, with the kinds within it."""
    if isinstance(value, Rule):
        return "rule", told(value.exchange)
    if isinstance(value, Desk):
        return "desk", value.up(), told(value.rule)
    if isinstance(value, Exchange):
        return "exchange", value.ins, value.outs, value.middles
    if isinstance(value, Share):
        return "share", value.top, value.bottom
    return value, str(kinds(value))


def by_name(names, values, turned):
    pairs = list(zip(names, values))
    return dict(pairs[::-1] if turned else pairs)


class NamesTest(unittest.TestCase):

    def test_each_function_and_method_with_its_arguments_by_name(self):
        for module, owner, name, names, values in LISTED:
            work = module
            for part in name.split(".") if owner is None else (owner, name):
                work = getattr(work, part)
            names = names.split()
            own = values[:1] if owner else ()
            values = values[1:] if owner else values
            self.assertEqual(len(names), len(values), name)
            wanted = told(work(*own, *values))
            for turned in (True, False):
                self.assertEqual(told(work(*own, **by_name(names, values, turned))), wanted, name)
            # The first by position, the others by name and the other way round.
            self.assertEqual(told(work(*own, *values[:1], **by_name(names[1:], values[1:], True))), wanted, name)

    def test_worth(self):
        wanted = worths.worth(SQUARE, 7, start=STANDING)
        self.assertEqual(worths.worth(start=STANDING, calls=7, exchange=SQUARE), wanted)
        self.assertEqual(worths.worth(SQUARE, start=STANDING, calls=7), wanted)
        self.assertEqual(worths.worth(calls=7, exchange=SQUARE), worths.worth(SQUARE, 7))

    def test_the_methods_of_the_desk(self):
        one, other = Desk(FIRST), Desk(rule=FIRST)
        for name, names, values in DESK:
            wanted = getattr(one, name)(*values)
            found = getattr(other, name)(**by_name(names.split(), values, True))
            self.assertEqual(told(found), told(wanted), name)
            self.assertEqual(one.up(), other.up())
        self.assertEqual(list(one.watch([("call", (1, 0))])), list(other.watch(deeds=[("call", (1, 0))])))
        self.assertEqual((one.let, one.barred, one.moved), (other.let, other.barred, other.moved))
        self.assertTrue(inspect.isgeneratorfunction(Desk.watch))

    def test_the_list_has_all_that_the_modules_define(self):
        listed = {(module.__name__, name.split(".")[0]) for module, owner, name, _, _ in LISTED if owner is None}
        listed |= {("callsthrough.worths", "worth")}
        for module in {module for module, *_ in LISTED}:
            own = {
                name for name, thing in vars(module).items()
                if getattr(thing, "__module__", None) == module.__name__ and not name.startswith("_")
            }
            wanted = {name for place, name in listed if place == module.__name__}
            self.assertLessEqual(wanted, own)

    def test_each_name_is_defined_under_its_heading(self):
        for module, owner, name, _, _ in LISTED:
            if owner is None:
                thing = getattr(module, name.split(".")[0])
                self.assertEqual(thing.__module__, module.__name__, name)
            else:
                self.assertIn(name, vars(getattr(module, owner)))
        for name in "with_middles turned pairs square __eq__".split():
            self.assertIn(name, vars(Exchange))
        for name in "__eq__ __add__ __radd__ __sub__ __mul__ __rmul__ __neg__ __abs__ below".split():
            self.assertIn(name, vars(Share))

    def test_a_wrong_number_of_arguments_is_no_call(self):
        for module, owner, name, names, values in LISTED:
            if owner is None and "." not in name:
                with self.assertRaises(TypeError):
                    getattr(module, name)(*values, 1, 2, 3)


def loose():
    """Functions of any values, with some that are right, and which of the arguments may be of any kind."""
    shapes, table = games.kept(NARROW), games.keeper(NARROW)
    ranks, lost = games.foe(SQUARE)
    heights, entries = means.upper_paper(SQUARE)
    low, keeping = means.lower_paper(SQUARE)
    later = (((0, 0), (1, 1)), ((0, 1),))
    return [
        (papers.keep_fault, (NARROW, shapes, table), (1, 2)), (papers.foe_fault, (SQUARE, ranks, lost), (1, 2)),
        (worths.price, (SQUARE, STANDING, later), (1, 2)), (worths.worth, (SQUARE, 5), (1,)),
        (lambda start: worths.worth(SQUARE, 5, start=start), (STANDING,), (0,)), (worths.calls_for, (SQUARE, 5), (1,)),
        (means.upper_fault, (SQUARE, HALF, heights, entries), (2, 3)),
        (means.lower_fault, (SQUARE, HALF, low, keeping), (2, 3)), (ahead.fewest_lost, (SQUARE, ROW), (1,)),
        (ahead.ahead_plan, (SQUARE, ROW), (1,)), (ahead.plan_fault, (SQUARE, ROW, [0, 0]), (1, 2)),
        (back.can_be, (SQUARE, DIARY), (1,)), (back.shapes_that_fit, (SQUARE, DIARY), (1,)),
        (back.foretold, (SQUARE, DIARY, (0, 1)), (1, 2)), (texts.standing_text, (SQUARE, STANDING), (1,)),
        (texts.deeds_text, (SQUARE, ROW), (1,)), (texts.read_exchange, ("2|2|2",), (0,)),
        (texts.read_standing, (SQUARE, "./."), (1,)), (texts.read_deeds, (SQUARE, "none"), (1,)),
        (Desk(FIRST).call, ((0, 0),), (0,)), (Desk(FIRST).force, ((0, 0),), (0,)), (Desk(FIRST).end, (0,), (0,)),
        (Desk(FIRST).trial, (ROW,), (0,)), (lambda row: list(Desk(FIRST).watch(row)), (ROW,), (0,)),
        (standings.is_standing, (SQUARE, STANDING), (1,)), (standings.is_shape, (SQUARE, STANDING), (1,)),
        (standings.calls, (SQUARE, STANDING), (1,)), (standings.free_doors, (SQUARE, STANDING), (1,)),
        (standings.free_middles, (SQUARE, STANDING, (0, 1)), (1, 2)),
        (standings.barred, (SQUARE, STANDING, (0, 1)), (1, 2)),
        (standings.with_call, (SQUARE, STANDING, (1, 1), 0), (1, 2, 3)),
        (standings.without_call, (SQUARE, STANDING, (1, 1), 1), (1, 2, 3)), (standings.shape, (SQUARE, STANDING), (1,)),
        (counts.busiest, (SQUARE, (0, 1)), (1,)), (counts.arranged, (SQUARE, [(0, 0)]), (1,)),
        (moves.least_moves, (SQUARE, STANDING, (0, 1)), (1, 2)), (moves.moved, (SQUARE, STANDING, (0, 1)), (1, 2)),
        (moves.chain, (SQUARE, STANDING, (0, 1), 1, 0), (1, 2, 3, 4)), (deeds.deed_fault, (SQUARE, ROW), (1,)),
        (Rule, (SQUARE, "first"), (1,)), (FIRST, (STANDING, (1, 1)), (0, 1)), (rules.played, (FIRST, ROW), (1,)),
        (judged.safe_fault, (FIRST, [STANDING]), (1,)), (games.least_for, (NARROW, "first"), (1,)),
        (Share, (6, -4), (0, 1)), (Exchange, ((2,), (2,), 2), (0, 1, 2)), (Exchange.square, (2, 2, 2), (0, 1, 2)),
        (SQUARE.with_middles, (2,), (0,)),
    ]


class ValuesTest(unittest.TestCase):

    def test_odd_values_lead_to_the_named_errors_alone(self):
        # Any other error than those under CallError passes on and fails the test.
        for work, values, any_kind in loose():
            for at, value in product(any_kind, odd_values()):
                try:
                    work(*values[:at], value, *values[at + 1:])
                except CallError as e:
                    self.assertEqual(e.__class__.__bases__, (CallError,))
                    self.assertEqual(len(vars(e)), 1)

    def test_items_and_entries_of_odd_kinds(self):
        for work, values, any_kind in loose():
            for at, value in product(any_kind, odd_values()):
                for spoiled in self.spoiled(values[at], value):
                    try:
                        work(*values[:at], spoiled, *values[at + 1:])
                    except CallError as e:
                        self.assertEqual(e.__class__.__bases__, (CallError,))

    def spoiled(self, right, value):
        """The right value with an item or entry changed, and one more."""
        if isinstance(right, (list, tuple)):
            more = [value] if isinstance(right, list) else (value,)
            return [right + more, more + right, right[:-1] + more, more + right[1:], more * 3]
        if isinstance(right, dict):
            keys = sorted(right)
            found = [{**right, keys[0]: value}, {**right, keys[-1]: value}, {**right, keys[len(keys) // 2]: value}]
            return found + [{keys[0]: value}, {**right, "more": value}]
        return []

    def test_no_argument_is_changed(self):
        for work, values, any_kind in loose():
            for at in any_kind:
                before = repr(values[at])
                work_of = values[:at] + (values[at],) + values[at + 1:]
                try:
                    work(*work_of)
                except CallError:
                    pass
                self.assertEqual(repr(values[at]), before)

    def test_errors_of_earlier_arguments_come_first(self):
        odd = [value for value in no_integers() if not isinstance(value, (str, dict, list, tuple, type(None)))]
        for work, values, any_kind in loose():
            for one, other in product(any_kind, any_kind):
                if one >= other or work in (papers.keep_fault, papers.foe_fault, means.upper_fault, means.lower_fault):
                    continue
                for value in odd:
                    first = self.error_of(work, values[:one] + (value,) + values[one + 1:])
                    both = values[:one] + (value,) + values[one + 1:other] + (value,) + values[other + 1:]
                    second = self.error_of(work, both)
                    if first is not None:
                        self.assertEqual((first.__class__, vars(first)), (second.__class__, vars(second)))

    def error_of(self, work, values):
        try:
            work(*values)
        except CallError as e:
            return e
        return None

    def test_all_errors_of_the_program_are_in_one_file(self):
        for module in {module for module, *_ in LISTED}:
            own = [thing for thing in vars(module).values() if isinstance(thing, type) and issubclass(thing, Exception)]
            for thing in own:
                self.assertEqual(thing.__module__, errors.__name__)
                self.assertEqual(thing.__bases__, (CallError,))


if __name__ == "__main__":
    unittest.main()
