import unittest
from collections import Counter
from itertools import permutations

from callsthrough import rules
from callsthrough.errors import BadDeed, BadRule, NoDoor, NoPair, NoStanding, TooMany
from callsthrough.exchanges import Exchange
from callsthrough.rules import Rule, played
from callsthrough.standings import all_shapes, is_standing
from tests.helper import (
    added, all_standings, caught, frees, kinds, odd_items, odd_values, opens, shape_of, small_exchanges, some_table,
    taken,
)
from tests.test_deeds import no_deeds
from tests.test_standings import EXCHANGE as WIDE
from tests.test_standings import STANDING, wrong_pairs, wrong_standings

WORDS = ("first", "last", "fullest", "emptiest", "busy")
EXCHANGE = Exchange((2, 1), (2, 1), 2)
GREAT = [Exchange.square(4, 4, 7), Exchange.square(4, 1, 4), Exchange.square(3, 3, 3)]


def picked_by_word(word, standing, pair):
    """The middle by the words of the document, found by going over the free middles."""
    best = None
    for k in frees(standing, pair):
        size = len(standing[k])
        if best is None or word == "last":
            best = k
        elif word == "fullest" and size > len(standing[best]) or word == "emptiest" and size < len(standing[best]):
            best = k
        elif word == "busy" and size and not standing[best]:
            best = k
    return best


class WordsTest(unittest.TestCase):

    def test_the_words(self):
        self.assertEqual(Rule.WORDS, WORDS)
        self.assertEqual(Rule(EXCHANGE, "last").WORDS, WORDS)
        self.assertEqual(kinds(Rule.WORDS), (tuple, [str] * 5))

    def test_a_standing_on_which_the_words_differ(self):
        exchange = Exchange.square(4, 4, 7)
        standing = ((), ((1, 1),), ((1, 2), (2, 1)), ((0, 0), (1, 3), (3, 1)), ((2, 2), (3, 3)), ((3, 2),), ())
        for word, k in [("first", 0), ("last", 6), ("fullest", 2), ("emptiest", 0), ("busy", 1)]:
            self.assertEqual(Rule(exchange, word)(standing, (0, 0)), k)
        for word, k in [("first", 1), ("last", 5), ("fullest", 2), ("emptiest", 1), ("busy", 1)]:
            rest = (((0, 3),),) + standing[1:6] + (((0, 1),),)
            self.assertEqual(Rule(exchange, word)(rest, (0, 0)), k)

    def test_of_several_the_least(self):
        exchange = Exchange.square(3, 3, 5)
        standing = (((0, 0),), ((1, 1),), (), ((2, 2),), ())
        for word, k in [("fullest", 1), ("emptiest", 2), ("busy", 1), ("first", 1), ("last", 4)]:
            self.assertEqual(Rule(exchange, word)(standing, (0, 0)), k)
        for word, k in [("fullest", 0), ("emptiest", 0), ("busy", 0), ("first", 0), ("last", 4)]:
            self.assertEqual(Rule(exchange, word)(((),) * 5, (0, 0)), k)

    def test_every_order_of_the_loads(self):
        exchange = Exchange.square(3, 3, 4)
        for standing in permutations([(), ((1, 1),), ((0, 0), (2, 2)), ((1, 2), (2, 1))]):
            for word in WORDS:
                rule = Rule(exchange, word)
                for pair in opens(exchange, standing):
                    self.assertEqual(rule(standing, pair), picked_by_word(word, standing, pair))

    def test_small_exchanges(self):
        for exchange in small_exchanges(100):
            chosen = [Rule(exchange, word) for word in WORDS]
            for standing in all_standings(exchange):
                for pair in opens(exchange, standing):
                    for word, rule in zip(WORDS, chosen):
                        k = rule(standing, pair)
                        self.assertEqual(k, picked_by_word(word, standing, pair))
                        self.assertIs(k is None, frees(standing, pair) == [])
                        self.assertIn(kinds(k), (int, None.__class__))

    def test_the_exchange_and_the_names(self):
        rule = Rule(exchange=EXCHANGE, choice="busy")
        self.assertIs(rule.exchange, EXCHANGE)
        self.assertEqual(rule(standing=((), ()), pair=(0, 0)), 0)
        table = Rule(EXCHANGE, some_table(EXCHANGE))
        self.assertIs(table.exchange, EXCHANGE)
        for name in ("__call__", "WORDS"):
            self.assertIn(name, vars(Rule))
        self.assertEqual((Rule.__module__, played.__module__), ("callsthrough.rules",) * 2)
        self.assertEqual(rules.Rule, Rule)


class ErrorsTest(unittest.TestCase):

    def some_rules(self, exchange):
        return [Rule(exchange, word) for word in WORDS]

    def test_no_standing(self):
        for value in wrong_standings():
            for rule in self.some_rules(WIDE):
                for pair in [(1, 1), None, (9, 9), (0, 0)]:
                    self.assertIs(caught(NoStanding, lambda: rule(value, pair)).thing, value)
        table = Rule(EXCHANGE, some_table(EXCHANGE))
        for value in odd_items((((0, 0), (1, 1)), ((0, 0),))) + odd_values():
            self.assertIs(caught(NoStanding, lambda: table(value, None)).thing, value)

    def test_no_pair(self):
        for value in wrong_pairs():
            for rule in self.some_rules(WIDE):
                self.assertIs(caught(NoPair, lambda: rule(STANDING, value)).thing, value)
        table = Rule(EXCHANGE, some_table(EXCHANGE))
        for value in odd_items((0, 0)) + [(2, 0), (0, 2)] + odd_values():
            self.assertIs(caught(NoPair, lambda: table((((0, 0), (1, 1)), ((0, 0),)), value)).thing, value)

    def test_no_door(self):
        for rule in self.some_rules(WIDE):
            self.assertEqual(caught(NoDoor, lambda: rule(STANDING, (0, 0))).side, "in")
            self.assertEqual(caught(NoDoor, lambda: rule(STANDING, (2, 1))).side, "in")
            self.assertEqual(caught(NoDoor, lambda: rule(STANDING, (1, 1))).side, "out")
        table = Rule(EXCHANGE, some_table(EXCHANGE))
        self.assertEqual(caught(NoDoor, lambda: table((((1, 1),), ()), (1, 1))).side, "in")
        self.assertEqual(caught(NoDoor, lambda: table((((1, 1),), ()), (1, 0))).side, "in")
        self.assertEqual(caught(NoDoor, lambda: table((((1, 1),), ()), (0, 1))).side, "out")

    def test_no_free_middle_is_none(self):
        for choice in WORDS + (some_table(Exchange.square(2, 2, 2)),):
            rule = Rule(Exchange.square(2, 2, 2), choice)
            self.assertIsNone(rule((((0, 0),), ((1, 1),)), (0, 1)))

    def test_other_kinds_of_choice(self):
        odd = [value for value in odd_values() if not isinstance(value, dict) and value != "first"]
        for value in odd + ["First", "first ", "", b"first", ("first",), ["first"], WORDS, "firstlast", "table"]:
            for exchange in [EXCHANGE] + GREAT:
                self.assertIs(caught(BadRule, lambda: Rule(exchange, value)).key, value)


class TablesTest(unittest.TestCase):

    def test_the_least_free_middle_with_just_this_load(self):
        exchange = Exchange.square(2, 2, 4)
        shape = ((), (), ((0, 0),), ((1, 1),))
        for load in [(), ((0, 0),)]:
            table = some_table(exchange)
            table[(shape, (1, 1))] = load
            rule = Rule(exchange, table)
            for standing in permutations(shape):
                self.assertEqual(rule(standing, (1, 1)), standing.index(load))

    def test_small_exchanges(self):
        for exchange in small_exchanges(100):
            for turn in (0, 1):
                table = some_table(exchange, turn)
                rule = Rule(exchange, table)
                for standing in all_standings(exchange):
                    for pair in opens(exchange, standing):
                        free = frees(standing, pair)
                        wanted = [k for k in free if standing[k] == table[(shape_of(standing), pair)]] + [None]
                        self.assertEqual(rule(standing, pair), wanted[0])

    def test_keys_in_any_order(self):
        table = some_table(EXCHANGE)
        turned = {key: table[key] for key in sorted(table, reverse=True)}
        one, other = Rule(EXCHANGE, table), Rule(EXCHANGE, turned)
        for standing in all_standings(EXCHANGE):
            for pair in opens(EXCHANGE, standing):
                self.assertEqual(one(standing, pair), other(standing, pair))

    def test_keys_are_just_the_calls_with_doors_and_a_middle(self):
        exchange = Exchange.square(2, 2, 2)
        wanted = [(shape, pair) for shape in all_shapes(exchange) for pair in opens(exchange, shape)
                  if frees(shape, pair)]
        self.assertEqual(sorted(some_table(exchange)), wanted)
        Rule(exchange, some_table(exchange))
        for key in [((((0, 0),), ((1, 1),)), (0, 1)), ((((0, 0), (1, 1)), ((0, 1),)), (0, 0))]:
            table = some_table(exchange)
            table[key] = ()
            self.assertEqual(caught(BadRule, lambda: Rule(exchange, table)).key, ())

    def test_a_missing_key(self):
        table = some_table(EXCHANGE)
        for key in table:
            fewer = {other: table[other] for other in table if other != key}
            self.assertEqual(caught(BadRule, lambda: Rule(EXCHANGE, fewer)).key, key)
        self.assertEqual(caught(BadRule, lambda: Rule(EXCHANGE, {})).key, (((), ()), (0, 0)))

    def test_the_first_bad_key_of_several(self):
        table = some_table(EXCHANGE)
        keys = sorted(table)
        for at, one in enumerate(keys):
            for other in keys[at + 1::5]:
                for bad in (None, ((0, 1), (1, 0)), []):
                    spoiled = dict(table)
                    spoiled[one], spoiled[other] = None, bad
                    self.assertEqual(caught(BadRule, lambda: Rule(EXCHANGE, spoiled)).key, one)
                    del spoiled[one]
                    error = caught(BadRule, lambda: Rule(EXCHANGE, spoiled))
                    self.assertEqual((error.key, kinds(error.key)), (one, kinds(one)))

    def test_an_entry_of_another_kind(self):
        table = some_table(EXCHANGE)
        for key, load in table.items():
            odd = odd_items(load) + [value for value in odd_values() if value != ()]
            for value in odd + [[], [list(pair) for pair in load], [[0, 0]]]:
                spoiled = dict(table)
                spoiled[key] = value
                self.assertEqual(caught(BadRule, lambda: Rule(EXCHANGE, spoiled)).key, key)
        for pair in [(True, 1), (1, True), (False, 0), [1, 1]]:
            spoiled = dict(table)
            key = (((), ((1, 1),)), (0, 0))
            spoiled[key] = ((1, 1),)
            Rule(EXCHANGE, spoiled)
            spoiled[key] = (pair,)
            self.assertEqual(caught(BadRule, lambda: Rule(EXCHANGE, spoiled)).key, key)

    def test_an_entry_that_is_no_load_of_a_free_middle(self):
        table = some_table(EXCHANGE)
        loads = {load for shape in all_shapes(EXCHANGE) for load in shape}
        for shape, pair in table:
            for load in loads:
                spoiled = dict(table)
                spoiled[(shape, pair)] = load
                if load in [shape[k] for k in frees(shape, pair)]:
                    Rule(EXCHANGE, spoiled)
                else:
                    self.assertEqual(caught(BadRule, lambda: Rule(EXCHANGE, spoiled)).key, (shape, pair))

    def test_a_key_more(self):
        table = some_table(EXCHANGE)
        missing = sorted(table)[3]
        for key in ["first", None, 7, (), ((), ()), (((), ()), (5, 5)), ((((1, 1),), ()), (0, 0)), "call"]:
            more = dict(table)
            more[key] = ()
            error = caught(BadRule, lambda: Rule(EXCHANGE, more))
            self.assertEqual((error.key, kinds(error.key)), ((), (tuple, [])))
            # A missing key counts before a spurious one, though the number of keys is right.
            del more[missing]
            self.assertEqual(caught(BadRule, lambda: Rule(EXCHANGE, more)).key, missing)

    def test_keys_are_looked_up_as_python_does(self):
        table = some_table(EXCHANGE)
        flags = {}
        for (shape, pair), load in table.items():
            odd = tuple(tuple((bool(i), bool(o)) for i, o in one) for one in shape)
            flags[(odd, (bool(pair[0]), bool(pair[1])))] = load
        self.assertEqual(flags, table)
        rule = Rule(EXCHANGE, flags)
        for standing in all_standings(EXCHANGE):
            for pair in opens(EXCHANGE, standing):
                self.assertEqual(rule(standing, pair), Rule(EXCHANGE, table)(standing, pair))

    def test_too_many_shapes_for_any_dict(self):
        for exchange in GREAT:
            for value in [{}, {"first": 1}, some_table(EXCHANGE), {((),) * exchange.middles: ()}]:
                self.assertEqual(caught(TooMany, lambda: Rule(exchange, value)).most, 1000)

    def test_the_dict_is_copied(self):
        table = some_table(EXCHANGE)
        kept = dict(table)
        rule = Rule(EXCHANGE, table)
        told = [rule(standing, pair) for standing in all_standings(EXCHANGE) for pair in opens(EXCHANGE, standing)]
        self.assertEqual(table, kept)
        other = some_table(EXCHANGE, 1)
        self.assertNotEqual(other, kept)
        table.update(other)
        again = [rule(standing, pair) for standing in all_standings(EXCHANGE) for pair in opens(EXCHANGE, standing)]
        self.assertEqual(again, told)
        table.clear()
        again = [rule(standing, pair) for standing in all_standings(EXCHANGE) for pair in opens(EXCHANGE, standing)]
        self.assertEqual(again, told)


def played_by_hand(rule, row):
    """Play the row with the rule asked at each call, by a list of the calls that were let."""
    standing = ((),) * rule.exchange.middles
    calls, found = [], []
    for word, thing in row:
        k = None
        if word == "call":
            k = rule(standing, thing)
            calls.append((thing, k))
            standing = standing if k is None else added(standing, thing, k)
        elif calls[thing][1] is not None:
            standing = taken(standing, *calls[thing])
        found.append((k, standing))
    return found


class PlayedTest(unittest.TestCase):
    ROW = [
        ("call", (0, 0)), ("call", (1, 1)), ("call", (0, 1)), ("end", 2), ("call", (1, 0)), ("end", 0), ("end", 3),
        ("call", (0, 1)), ("end", 1), ("call", (1, 0)), ("end", 4), ("end", 5),
    ]

    def test_example_of_the_interface(self):
        rule = Rule(Exchange.square(2, 2, 2), "emptiest")
        self.assertEqual(played(rule, [("call", (0, 0)), ("call", (1, 1)), ("call", (0, 1))]), [
            (0, (((0, 0),), ())), (1, (((0, 0),), ((1, 1),))), (None, (((0, 0),), ((1, 1),))),
        ])

    def test_barred_calls_and_their_ends(self):
        one = (((0, 0),), ((1, 1),))
        two = ((), ((1, 1),))
        self.assertEqual(played(Rule(Exchange.square(2, 2, 2), "emptiest"), self.ROW), [
            (0, (((0, 0),), ())), (1, one), (None, one), (None, one), (None, one), (None, two), (None, two),
            (0, (((0, 1),), ((1, 1),))), (None, (((0, 1),), ())), (1, (((0, 1),), ((1, 0),))), (None, ((), ((1, 0),))),
            (None, ((), ())),
        ])

    def test_each_rule_and_each_beginning(self):
        exchange = Exchange.square(2, 2, 2)
        seen = Counter()
        for choice in WORDS + (some_table(exchange), some_table(exchange, 1)):
            rule = Rule(exchange, choice)
            for length in range(len(self.ROW) + 1):
                found = played(rule, self.ROW[:length])
                self.assertEqual(found, played_by_hand(rule, self.ROW[:length]))
                self.assertEqual(len(found), length)
                self.assertTrue(all(is_standing(exchange, standing) for _, standing in found))
                self.assertTrue(all(kinds(item)[0] is tuple for item in found))
                seen.update(k for k, _ in found)
        self.assertEqual(set(seen), {None, 0, 1})

    def test_the_row_without_deeds(self):
        self.assertEqual(played(Rule(EXCHANGE, "first"), []), [])

    def test_a_row_of_200_deeds(self):
        row = [deed for n in range(100) for deed in (("call", (n % 2, n % 2)), ("end", n))]
        rule = Rule(EXCHANGE, "first")
        self.assertEqual(played(rule, row), played_by_hand(rule, row))
        self.assertEqual(caught(BadDeed, lambda: played(rule, row + row[:1])).at, -1)

    def test_bad_deeds(self):
        rule = Rule(Exchange((2, 1), (1, 2), 1), "first")
        right = [("call", (0, 0)), ("call", (1, 1)), ("end", 0)]
        for at in range(4):
            for value in no_deeds():
                row = right[:at] + [value] + right[at:]
                self.assertEqual(caught(BadDeed, lambda: played(rule, row)).at, at)
        for value in odd_values():
            if not isinstance(value, list):
                self.assertEqual(caught(BadDeed, lambda: played(rule, value)).at, -1)
        self.assertEqual(caught(BadDeed, lambda: played(rule=rule, deeds=right + [("end", 0)])).at, 3)

    def test_doors_count_as_if_every_call_were_let(self):
        rule = Rule(Exchange((2, 2), (2, 2), 1), "first")
        row = [("call", (0, 0)), ("call", (0, 1))]
        self.assertEqual(played(rule, row), [(0, (((0, 0),),)), (None, (((0, 0),),))])
        self.assertEqual(caught(BadDeed, lambda: played(rule, row + [("call", (0, 0))])).at, 2)

    def test_the_list_is_new_and_the_row_stays(self):
        rule = Rule(EXCHANGE, "first")
        row = [("call", (0, 0)), ("end", 0)]
        first = played(rule, row)
        kept = list(first)
        first.clear()
        self.assertEqual(played(rule, row), kept)
        self.assertEqual(row, [("call", (0, 0)), ("end", 0)])


if __name__ == "__main__":
    unittest.main()
