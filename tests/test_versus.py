import unittest
from itertools import product

from callsthrough import versus
from callsthrough.deeds import deed_fault
from callsthrough.errors import TooMany, Unlike
from callsthrough.exchanges import Exchange
from callsthrough.rules import Rule, played
from callsthrough.versus import parted
from tests.helper import added, caught, kinds, rules_of_2000_and_2001, small_exchanges, some_table, taken
from tests.test_judged import deeds_from

# Words and exchanges with how many couples come.
NUMBERED = [
    (1993, "fullest", "busy", (4, 3), (3, 2), 5), (1985, "fullest", "emptiest", (4, 1), (2, 1, 1), 3),
    (1985, "emptiest", "busy", (2, 1, 1), (3, 1), 3), (2007, "first", "last", (4, 1), (4, 4, 2), 4),
]


def after_deed(one, other, sides, held, deed):
    """The two standings and the calls behind a deed, and the middles of a call; a barred call has the middle None."""
    word, thing = deed
    if word == "end":
        pair, k, m = held[thing]
        left = sides[0] if k is None else taken(sides[0], pair, k)
        right = sides[1] if m is None else taken(sides[1], pair, m)
        return (left, right), held[:thing] + (None,) + held[thing + 1:], None
    k, m = one(sides[0], thing), other(sides[1], thing)
    left = sides[0] if k is None else added(sides[0], thing, k)
    right = sides[1] if m is None else added(sides[1], thing, m)
    return (left, right), held + ((thing, k, m),), (k, m)


def parted_by_search(one, other):
    """The first of the shortest rows and who bars: all rows, length by length and in their order."""
    start = ((),) * one.exchange.middles
    rows, known = [([], (start, start), ())], set()
    while rows:
        longer = []
        for row, sides, held in rows:
            for deed in deeds_from(one.exchange, held):
                later, calls, picked = after_deed(one, other, sides, held, deed)
                if picked is not None and picked.count(None) == 1:
                    return row + [deed], picked.index(None)
                # What follows depends on the calls that are up and their order alone.
                state = tuple(call for call in calls if call)
                if state not in known:
                    known.add(state)
                    longer.append((row + [deed], later, calls))
        rows = longer
    return None


def couples_by_search(one, other):
    """All couples that come, with calls that both rules bar and that hold their doors."""
    start = ((),) * one.exchange.middles
    known, waiting = {((start, start), ())}, [((start, start), ())]
    while waiting:
        sides, held = waiting.pop()
        for deed in deeds_from(one.exchange, held):
            later, calls, picked = after_deed(one, other, sides, held, deed)
            if picked is not None and picked.count(None) == 1:
                continue
            calls = tuple(sorted([call for call in calls if call], key=repr))
            if (later, calls) not in known:
                known.add((later, calls))
                waiting.append((later, calls))
    return {tuple(call for call in calls if call[1] is not None) for _, calls in known}


def all_rules(exchange):
    tables = [some_table(exchange), some_table(exchange, 1)]
    return [Rule(exchange, choice) for choice in Rule.WORDS + tuple(tables)]


class PartedTest(unittest.TestCase):

    def test_example_of_the_interface(self):
        exchange = Exchange((2, 1), (2, 1), 2)
        found = parted(Rule(exchange, "emptiest"), Rule(exchange, "fullest"))
        wanted = ([("call", (0, 1)), ("call", (1, 0)), ("call", (0, 0))], 0)
        self.assertEqual(found, wanted)
        self.assertEqual(kinds(found), kinds(wanted))

    def test_small_exchanges(self):
        seen = set()
        for exchange in small_exchanges(50):
            for one, other in product(all_rules(exchange), repeat=2):
                found = parted(one, other)
                self.assertEqual(found, parted_by_search(one, other))
                if found is not None:
                    self.assert_row(one, other, *found)
                    seen.add((found[1], "end" in dict(found[0])))
                else:
                    seen.add(None)
        self.assertEqual(seen, {None, (0, True), (0, False), (1, True), (1, False)})

    def assert_row(self, one, other, row, who):
        self.assertIsNone(deed_fault(one.exchange, row))
        self.assertEqual(row[-1][0], "call")
        for rule, barred in [(one, who == 0), (other, who == 1)]:
            middles = [k for (k, _), (word, _) in zip(played(rule, row), row) if word == "call"]
            self.assertNotIn(None, middles[:-1])
            self.assertIs(middles[-1] is None, barred)

    def test_greater_exchanges(self):
        lengths = set()
        for ins, outs, middles in [
            ((2, 2), (2, 2), 2), ((2, 2), (2, 2), 3), ((3, 1), (2, 2), 2), ((2, 2, 1), (2, 1), 2), ((3, 2), (2, 2), 3),
            ((3, 3), (3,), 4), ((2, 1, 1), (2, 1), 3),
        ]:
            exchange = Exchange(ins, outs, middles)
            for words in [
                ("first", "last"), ("fullest", "emptiest"), ("busy", "first"), ("emptiest", "busy"),
                ("last", "fullest"),
            ]:
                one, other = Rule(exchange, words[0]), Rule(exchange, words[1])
                found = parted(one, other)
                self.assertEqual(found, parted_by_search(one, other), (ins, outs, middles, words))
                turned = parted(other, one)
                self.assertEqual(turned, None if found is None else (found[0], 1 - found[1]))
                lengths.add(found and len(found[0]))
        self.assertGreaterEqual(len(lengths), 4, lengths)

    def test_a_rule_against_itself(self):
        for exchange in small_exchanges(70):
            for rule in all_rules(exchange):
                self.assertIsNone(parted(rule, rule))
        for exchange in [Exchange.square(2, 2, 2), Exchange((2, 2), (2, 2), 3)]:
            for word in Rule.WORDS:
                same = Exchange(exchange.ins, exchange.outs, exchange.middles)
                self.assertIsNone(parted(Rule(exchange, word), Rule(same, word)))

    def test_calls_that_both_bar_part_no_rules(self):
        # With one middle each call of a busy switch is barred by both.
        for ins, outs in [((2,), (2,)), ((2, 2), (2, 2)), ((3, 1), (2, 2))]:
            exchange = Exchange(ins, outs, 1)
            for one, other in product(Rule.WORDS, repeat=2):
                self.assertIsNone(parted(Rule(exchange, one), Rule(exchange, other)))

    def test_no_row_parts_rules_with_middles_enough(self):
        for ins, outs, middles in [((2, 1), (2, 1), 3), ((2,), (2, 2), 3), ((3,), (3,), 3), ((2, 2), (2, 1), 3)]:
            exchange = Exchange(ins, outs, middles)
            for one, other in product(all_rules(exchange), repeat=2):
                self.assertIsNone(parted(one, other))

    def test_unlike_exchanges(self):
        exchange = Exchange((2, 1), (2, 1), 2)
        rule = Rule(exchange, "emptiest")
        for ins, outs, middles in [
            ((2, 2), (2, 1), 2), ((2, 1), (1, 2), 2), ((2, 1), (2, 1), 3), ((4,) * 4, (4,) * 4, 7),
        ]:
            unlike = Rule(Exchange(ins, outs, middles), "fullest")
            self.assertEqual(caught(Unlike, lambda: parted(rule, unlike)).field, "exchange")
            self.assertEqual(caught(Unlike, lambda: parted(unlike, rule)).field, "exchange")
        same = Rule(Exchange((2, 1), (2, 1), 2), "fullest")
        self.assertIsNot(same.exchange, rule.exchange)
        self.assertEqual(parted(rule, same), ([("call", (0, 1)), ("call", (1, 0)), ("call", (0, 0))], 0))

    def test_the_limit_of_2000(self):
        for number, one, other, ins, outs, middles in NUMBERED:
            exchange = Exchange(ins, outs, middles)
            one, other = Rule(exchange, one), Rule(exchange, other)
            self.assertEqual(len(couples_by_search(one, other)), number)
            if number > 2000:
                self.assertEqual(caught(TooMany, lambda: parted(one, other)).most, 2000)
            else:
                self.assertEqual(parted(one, other), parted_by_search(one, other))

    def test_just_2000_and_2001_couples(self):
        # Against itself each standing of a rule makes a couple.
        let, over = rules_of_2000_and_2001()
        self.assertEqual(len(couples_by_search(let, let)), 2000)
        self.assertIsNone(parted(let, let))
        self.assertEqual(len(couples_by_search(over, over)), 2001)
        self.assertEqual(caught(TooMany, lambda: parted(over, over)).most, 2000)

    def test_too_many_couples_though_a_row_parts_the_rules(self):
        exchange = Exchange((3, 3), (2, 2), 3)
        one, other = Rule(exchange, "emptiest"), Rule(exchange, "busy")
        row = [("call", (0, 0)), ("call", (0, 0)), ("call", (1, 1)), ("call", (0, 1))]
        self.assertIsNone(played(one, row)[-1][0])
        self.assertIsNotNone(played(other, row)[-1][0])
        self.assertEqual(caught(TooMany, lambda: parted(one, other)).most, 2000)
        for exchange in [Exchange.square(4, 4, 7), Exchange.square(3, 3, 3)]:
            one, other = Rule(exchange, "first"), Rule(exchange, "last")
            self.assertEqual(caught(TooMany, lambda: parted(one, other)).most, 2000)

    def test_many_thousands_of_times(self):
        exchange = Exchange((2, 1), (2, 1), 2)
        rules = [Rule(exchange, word) for word in Rule.WORDS]
        wanted = {(one, other): parted_by_search(rules[one], rules[other]) for one in range(5) for other in range(5)}
        for _ in range(40):
            for (one, other), found in wanted.items():
                self.assertEqual(parted(rules[one], rules[other]), found)

    def test_the_row_is_new_each_time(self):
        exchange = Exchange((2, 1), (2, 1), 2)
        one, other = Rule(exchange, "emptiest"), Rule(exchange, "fullest")
        row, _ = parted(one, other)
        same = list(row)
        row.clear()
        self.assertEqual(parted(other=other, one=one), (same, 0))

    def test_the_function_is_defined_in_the_module(self):
        self.assertEqual(versus.parted.__module__, "callsthrough.versus")


if __name__ == "__main__":
    unittest.main()
