import unittest

from callsthrough import judged
from callsthrough.counts import strict
from callsthrough.deeds import deed_fault
from callsthrough.errors import TooMany
from callsthrough.exchanges import Exchange
from callsthrough.judged import bars, closed, safe_fault
from callsthrough.rules import Rule, played
from callsthrough.standings import is_standing
from tests.helper import (
    added, all_standings, caught, frees, kinds, odd_items, odd_values, opens, places_of, rules_of_2000_and_2001,
    small_exchanges, some_table, taken,
)
from tests.test_standings import NO_STANDINGS
from tests.test_standings import EXCHANGE as WIDE

EXCHANGE = Exchange.square(2, 2, 2)
# Words and exchanges with how many standings come.
NUMBERED = [
    (1989, "emptiest", (2, 2, 1, 1), (2, 2), 4), (1989, "fullest", (3, 3, 2), (2, 1, 1), 3),
    (1993, "fullest", (4, 3), (3, 2), 5), (2005, "fullest", (3, 1, 1), (1, 1, 1, 1), 3),
    (2007, "first", (4, 4, 2), (4, 1), 4),
]


def some_rules(exchange):
    tables = [some_table(exchange), some_table(exchange, 1)]
    return [Rule(exchange, choice) for choice in Rule.WORDS + tuple(tables)]


def deeds_from(exchange, held):
    """The deeds after which a row is still right, in the order of rows; held are its calls, ended ones as None."""
    ins = [len([1 for call in held if call and call[0][0] == i]) for i in range(len(exchange.ins))]
    outs = [len([1 for call in held if call and call[0][1] == o]) for o in range(len(exchange.outs))]
    pairs = [(i, o) for i, o in exchange.pairs() if ins[i] < exchange.ins[i] and outs[o] < exchange.outs[o]]
    return [("call", pair) for pair in pairs] + [("end", n) for n, call in enumerate(held) if call]


def after_deed(rule, standing, held, deed):
    """The standing and the calls behind a deed: call n is held with its middle, or None for a barred call."""
    word, thing = deed
    if word == "end":
        pair, k = held[thing]
        later = standing if k is None else taken(standing, pair, k)
        return later, held[:thing] + (None,) + held[thing + 1:]
    k = rule(standing, thing)
    later = standing if k is None else added(standing, thing, k)
    return later, held + ((thing, k),)


def standings_by_search(rule):
    """All standings that come, with barred calls that hold their doors."""
    start = ((),) * rule.exchange.middles
    known, waiting = {(start, ())}, [(start, ())]
    while waiting:
        standing, held = waiting.pop()
        for deed in deeds_from(rule.exchange, held):
            later, calls = after_deed(rule, standing, held, deed)
            # The numbers do not matter here.
            calls = tuple(sorted([call for call in calls if call], key=repr))
            if (later, calls) not in known:
                known.add((later, calls))
                waiting.append((later, calls))
    return sorted({standing for standing, _ in known})


def first_row_by_search(rule):
    """The first of the shortest rows to a barred call: all rows, length by length and in their order."""
    start = ((),) * rule.exchange.middles
    rows, known = [([], start, ())], set()
    while rows:
        longer = []
        for row, standing, held in rows:
            for deed in deeds_from(rule.exchange, held):
                if deed[0] == "call" and not frees(standing, deed[1]):
                    return row + [deed]
                later, calls = after_deed(rule, standing, held, deed)
                # What follows depends on the calls that are up and their order alone.
                state = tuple(call for call in calls if call)
                if state not in known:
                    known.add(state)
                    longer.append((row + [deed], later, calls))
        rows = longer
    return None


class SearchTest(unittest.TestCase):

    def test_examples_of_the_interface(self):
        self.assertEqual(bars(Rule(EXCHANGE, "emptiest")), [("call", (0, 0)), ("call", (1, 1)), ("call", (0, 1))])

    def test_closed_of_small_exchanges(self):
        for exchange in small_exchanges(60):
            for rule in some_rules(exchange):
                found = closed(rule)
                self.assertEqual(found, standings_by_search(rule))
                self.assertTrue(all(is_standing(exchange, standing) for standing in found))
                self.assertIs(found.__class__, list)

    def test_bars_of_small_exchanges(self):
        seen = set()
        for exchange in small_exchanges(150):
            for rule in some_rules(exchange):
                row = bars(rule)
                self.assertEqual(row, first_row_by_search(rule))
                seen.add(None if row is None else (len(row), *[word for word, _ in row if word == "end"]))
                if row is not None:
                    self.assert_row(rule, row)
        self.assertIn(None, seen)
        self.assertTrue(any("end" in one for one in seen if one), seen)

    def assert_row(self, rule, row):
        self.assertIsNone(deed_fault(rule.exchange, row))
        middles = [k for (k, _), (word, _) in zip(played(rule, row), row) if word == "call"]
        self.assertIsNone(middles[-1])
        self.assertNotIn(None, middles[:-1])
        self.assertEqual(row[-1][0], "call")

    def test_rows_with_ends_in_greater_exchanges(self):
        seen = set()
        for ins, outs, middles in [
            ((2, 1), (2, 1), 2), ((2, 2), (2, 2), 2), ((3, 1), (2, 2), 2), ((2, 2), (2, 2), 3), ((2, 2, 1), (2, 1), 2),
            ((3, 2), (2, 2), 3), ((2, 1, 1), (2, 1, 1), 2), ((2, 2, 1), (2, 2), 3), ((3, 3), (3, 1), 3),
        ]:
            exchange = Exchange(ins, outs, middles)
            for word in Rule.WORDS:
                rule = Rule(exchange, word)
                row = bars(rule)
                self.assertEqual(row, first_row_by_search(rule), (ins, outs, middles, word))
                seen.add(None if row is None else len([1 for deed in row if deed[0] == "end"]))
        self.assertGreaterEqual(len(seen), 3, seen)

    def test_strict_middles_bar_no_call(self):
        for ins, outs in [((1,), (1,)), ((2, 1), (2, 1)), ((2, 2), (2, 2)), ((3,), (3,)), ((2, 2), (3,))]:
            exchange = Exchange(ins, outs, 1)
            exchange = exchange.with_middles(strict(exchange))
            for word in Rule.WORDS:
                self.assertIsNone(bars(Rule(exchange, word)))

    def test_the_limit_of_2000(self):
        for number, word, ins, outs, middles in NUMBERED:
            rule = Rule(Exchange(ins, outs, middles), word)
            if number > 2000:
                for work in (closed, bars):
                    self.assertEqual(caught(TooMany, lambda: work(rule)).most, 2000)
                continue
            found = closed(rule)
            self.assertEqual(len(found), number)
            self.assertEqual(found, sorted(set(found)))
            self.assertEqual(bars(rule), first_row_by_search(rule))

    def test_just_2000_and_2001_standings(self):
        rule, over = rules_of_2000_and_2001()
        self.assertEqual(len(closed(rule)), 2000)
        self.assertIs(safe_fault(rule, closed(rule)) is None, bars(rule) is None)
        self.assertEqual(len(standings_by_search(over)), 2001)
        for work in (closed, bars):
            self.assertEqual(caught(TooMany, lambda: work(over)).most, 2000)

    def test_great_exchanges(self):
        for exchange in [Exchange.square(4, 4, 7), Exchange.square(4, 4, 4), Exchange.square(3, 3, 1)]:
            for word in Rule.WORDS:
                rule = Rule(exchange, word)
                if exchange.middles == 1:
                    self.assertEqual(len(closed(rule)), 34)
                    self.assertEqual(bars(rule), [("call", (0, 0)), ("call", (0, 0))])
                else:
                    for work in (closed, bars):
                        self.assertEqual(caught(TooMany, lambda: work(rule)).most, 2000)

    def test_answers_are_new_each_time(self):
        rule = Rule(EXCHANGE, "emptiest")
        for work in (closed, bars):
            first = work(rule)
            kept = list(first)
            first.clear()
            self.assertEqual(work(rule=rule), kept)

    def test_kinds_of_the_answers(self):
        pair = (tuple, [int, int])
        self.assertEqual(kinds(bars(Rule(EXCHANGE, "emptiest"))), (list, [(tuple, [str, pair])] * 3))
        self.assertEqual(kinds(closed(Rule(Exchange((1,), (1,), 1), "first"))),
                         (list, [(tuple, [(tuple, [])]), (tuple, [(tuple, [pair])])]))


def fault_by_words(rule, standings):
    """The first fault of a list of right standings."""
    if ((),) * rule.exchange.middles not in standings:
        return ("empty",)
    for at, standing in enumerate(standings):
        for pair in opens(rule.exchange, standing):
            k = rule(standing, pair)
            if k is None:
                return ("barred", at, pair)
            if added(standing, pair, k) not in standings:
                return ("call", at, pair)
        for pair, k in sorted(places_of(standing)):
            if taken(standing, pair, k) not in standings:
                return ("end", at, pair, k)
    return None


class SafeFaultTest(unittest.TestCase):
    SAFE = Rule(Exchange((2, 1), (2, 1), 2), "fullest")

    def test_closed_of_a_rule_that_never_bars_has_no_fault(self):
        seen = set()
        for exchange in small_exchanges(100):
            for rule in some_rules(exchange):
                listed = closed(rule)
                fault = safe_fault(rule, listed)
                self.assertIs(fault is None, bars(rule) is None)
                self.assertEqual(fault, fault_by_words(rule, listed))
                self.assertIsNone(None if bars(rule) else safe_fault(rule, listed[::-1] + listed))
                seen.add(fault and fault[0])
        self.assertEqual(seen, {None, "barred"})

    def test_each_standing_left_out(self):
        seen = set()
        listed = closed(self.SAFE)
        self.assertIsNone(bars(self.SAFE))
        for at in range(len(listed)):
            for rows in (listed[:at] + listed[at + 1:], (listed[:at] + listed[at + 1:])[::-1]):
                fault = safe_fault(self.SAFE, rows)
                self.assertEqual(fault, fault_by_words(self.SAFE, rows))
                self.assertIsNotNone(fault)
                seen.add(fault[0])
        self.assertEqual(seen, {"empty", "call", "end"})

    def test_each_standing_more(self):
        listed = closed(self.SAFE)
        seen = set()
        for standing in all_standings(self.SAFE.exchange):
            for rows in (listed + [standing], [standing] + listed, listed[:3] + [standing] + listed[3:]):
                fault = safe_fault(self.SAFE, rows)
                self.assertEqual(fault, fault_by_words(self.SAFE, rows))
                if standing in listed:
                    self.assertIsNone(fault)
                else:
                    seen.add(fault and fault[0])
        self.assertIn("barred", seen)

    def test_each_fault_alone(self):
        rule = Rule(Exchange((1,), (1,), 2), "first")
        none, one, other = ((), ()), (((0, 0),), ()), ((), ((0, 0),))
        self.assertIsNone(safe_fault(rule, [none, one]))
        self.assertIsNone(safe_fault(rule, [one, none, one]))
        self.assertIsNone(safe_fault(rule, [one, none, other]))
        self.assertEqual(safe_fault(rule, (none, one)), ("form",))
        self.assertEqual(safe_fault(rule, [none, one, ((),)]), ("standing", 2))
        self.assertEqual(safe_fault(rule, [one, other]), ("empty",))
        self.assertEqual(safe_fault(rule, []), ("empty",))
        self.assertEqual(safe_fault(rule, [none]), ("call", 0, (0, 0)))
        self.assertEqual(safe_fault(rule, [other, none]), ("call", 1, (0, 0)))
        # In the last middle of two the call has no way back, since its end is not in the list.
        wide = Rule(Exchange((2,), (1, 1), 2), "first")
        zero = ((), ())
        rows = [zero, (((0, 0),), ()), (((0, 1),), ()), (((0, 0),), ((0, 1),)), (((0, 1),), ((0, 0),))]
        fault = ("end", 3, (0, 0), 0)
        self.assertEqual(safe_fault(wide, rows), fault)
        self.assertEqual(kinds(safe_fault(wide, rows)), kinds(fault))
        rows += [((), ((0, 1),)), ((), ((0, 0),))]
        self.assertIsNone(safe_fault(wide, rows))
        crowded = Rule(Exchange((2,), (2,), 1), "first")
        self.assertEqual(safe_fault(crowded, [((),), (((0, 0),),)]), ("barred", 1, (0, 0)))

    def test_the_first_of_several(self):
        rule = Rule(EXCHANGE, "emptiest")
        none = ((), ())
        bad = (((0, 0),), ((1, 1),))
        self.assertEqual(safe_fault(rule, [bad, None, 7]), ("standing", 1))
        self.assertEqual(safe_fault(rule, [None, bad]), ("standing", 0))
        self.assertEqual(safe_fault(rule, [bad, bad]), ("empty",))
        self.assertEqual(safe_fault(rule, [bad, none]), ("call", 0, (0, 0)))
        self.assertEqual(safe_fault(rule, [none, bad]), ("call", 0, (0, 0)))
        # Calls come before ends, pairs ascend, and ends ascend by pair and middle.
        one, both = (((1, 1),), ((0, 0),)), ((), ((0, 0), (1, 1)))
        exchange = Exchange((1, 1), (1, 1), 2)
        full = Rule(exchange, "first")
        lone = [none, (((0, 0),), ()), (((0, 1),), ()), (((1, 0),), ()), (((1, 1),), ())]
        self.assertEqual(safe_fault(full, [one] + lone), ("end", 0, (1, 1), 0))
        self.assertEqual(safe_fault(full, [both] + lone), ("end", 0, (0, 0), 1))
        self.assertEqual(safe_fault(full, [one, none]), ("end", 0, (0, 0), 1))
        twice = (((0, 0),), ((0, 0),))
        wide = Rule(Exchange((2,), (2,), 2), "first")
        self.assertEqual(safe_fault(wide, [twice, none]), ("end", 0, (0, 0), 0))
        self.assertEqual(safe_fault(full, lone), ("call", 1, (1, 1)))
        self.assertEqual(safe_fault(full, lone[:3] + lone[4:]), ("call", 0, (1, 0)))

    def test_odd_values_for_the_list(self):
        for rule in (self.SAFE, Rule(WIDE, "last")):
            for value in odd_values() + [tuple(closed(self.SAFE)), dict.fromkeys(closed(self.SAFE))]:
                if not isinstance(value, list):
                    self.assertEqual(safe_fault(rule, value), ("form",))

    def test_odd_items(self):
        rule = Rule(WIDE, "first")
        right = ((((0, 0), (1, 1)), ((1, 0), (2, 2)), ((0, 2),)))
        for value in NO_STANDINGS + odd_items(right) + odd_values():
            for at in range(3):
                rows = [((), (), ()), right]
                rows.insert(at, value)
                self.assertEqual(safe_fault(rule, rows), ("standing", at))

    def test_2000_and_2001_items(self):
        rule = Rule(Exchange((1,), (1,), 2), "first")
        none, one = ((), ()), (((0, 0),), ())
        self.assertIsNone(safe_fault(rule, [none] * 1999 + [one]))
        self.assertEqual(safe_fault(rule, [none] * 2000 + [one]), ("form",))
        self.assertEqual(safe_fault(rule, [None] * 2000), ("standing", 0))
        self.assertEqual(safe_fault(rule, [None] * 2001), ("form",))
        self.assertEqual(safe_fault(rule, [none] * 1999 + [7]), ("standing", 1999))
        for number, word, ins, outs, middles in NUMBERED[:3]:
            rule = Rule(Exchange(ins, outs, middles), word)
            self.assertIs(safe_fault(rule, closed(rule)) is None, bars(rule) is None)

    def test_the_list_stays_as_it_was(self):
        rows = [((), ()), [[]], {0: [1]}]
        safe_fault(rule=self.SAFE, standings=rows)
        self.assertEqual(rows, [((), ()), [[]], {0: [1]}])

    def test_each_function_is_defined_in_the_module(self):
        for name in "closed bars safe_fault".split():
            self.assertEqual(getattr(judged, name).__module__, "callsthrough.judged")


if __name__ == "__main__":
    unittest.main()
