import unittest
from itertools import product

from callsthrough import back
from callsthrough.back import can_be, foretold, shapes_that_fit
from callsthrough.errors import BadDiary, NoDoor, NoPair, TooMany
from callsthrough.exchanges import Exchange
from callsthrough.rules import Rule, played
from tests.helper import caught, kinds, odd_items, odd_values, some_row

SQUARE = Exchange.square(2, 2, 2)
SIDES = [((1,), (1,)), ((2,), (2,)), ((2,), (1, 1)), ((1, 2), (2,)), ((2, 2), (2, 1)), ((2, 2), (2, 2)),
         ((2, 1, 2), (2, 2)), ((3, 2), (2, 3))]
GREAT = [Exchange.square(4, 4, 7), Exchange.square(4, 1, 4), Exchange.square(4, 4, 3), Exchange.square(3, 3, 3)]
FOUR = [Exchange((2, 1, 1, 2), (2, 2), 2), Exchange((1, 1, 1, 1), (4, 2), 3), Exchange((2, 2, 1, 1), (3, 1), 3)]


def ways_by_words(exchange, diary):
    """All ways that fit, deed by deed, each middle by its own name: the tuples (n, pair, middle) of the calls up."""
    ways, came = {()}, 0
    for (word, thing), told in diary:
        later = set()
        for up in ways:
            if word == "end":
                later.add(tuple(call for call in up if call[0] != thing))
                continue
            busy = {k for _, pair, k in up if pair[0] == thing[0] or pair[1] == thing[1]}
            free = [k for k in range(exchange.middles) if k not in busy]
            if free and told != "barred":
                later.update(up + ((came, thing, k),) for k in free)
            if not free and told != "let":
                later.add(up)
        ways = later
        came += word == "call"
    return ways


def shape_by_words(exchange, up):
    return tuple(sorted(tuple(sorted(pair for _, pair, at in up if at == k)) for k in range(exchange.middles)))


def foretold_by_words(exchange, ways, pair):
    free = []
    for up in ways:
        busy = {k for _, one, k in up if one[0] == pair[0] or one[1] == pair[1]}
        free.append(len(busy) < exchange.middles)
    return any(free), not all(free)


def open_behind(exchange, diary):
    """The pairs with a free door behind the diary, as if every call had been let."""
    calls = [thing for (word, thing), _ in diary if word == "call"]
    over = [thing for (word, thing), _ in diary if word == "end"]
    up = [pair for n, pair in enumerate(calls) if n not in over]
    ins = [doors - len([pair for pair in up if pair[0] == i]) for i, doors in enumerate(exchange.ins)]
    outs = [doors - len([pair for pair in up if pair[1] == o]) for o, doors in enumerate(exchange.outs)]
    return [(i, o) for i, o in exchange.pairs() if ins[i] > 0 and outs[o] > 0]


def diary_of(rule, deeds, keep):
    """A diary of what the rule does; of the calls number n just those for which keep(n) are told."""
    found, n = [], 0
    for deed, (k, _) in zip(deeds, played(rule, deeds)):
        told = None
        if deed[0] == "call":
            told = ("barred" if k is None else "let") if keep(n) else None
            n += 1
        found.append((deed, told))
    return found


class FitTest(unittest.TestCase):

    def assert_fit(self, exchange, diary):
        before = list(diary)
        ways = ways_by_words(exchange, diary)
        shapes = sorted({shape_by_words(exchange, up) for up in ways})
        found = shapes_that_fit(exchange, diary)
        self.assertEqual(found, shapes)
        self.assertEqual(str(kinds(found)), str(kinds(shapes)))
        self.assertIs(can_be(exchange, diary), shapes != [])
        for pair in open_behind(exchange, diary):
            told = foretold(exchange, diary, pair)
            self.assertEqual(told, foretold_by_words(exchange, ways, pair))
            self.assertEqual(kinds(told), (tuple, [bool, bool]))
        self.assertEqual(diary, before)
        return len(shapes)

    def test_examples_of_the_interface(self):
        diary = [(("call", (0, 0)), None), (("call", (1, 1)), "let")]
        wanted = ([((), ((0, 0), (1, 1))), (((0, 0),), ((1, 1),))], (True, True))
        self.assertEqual((shapes_that_fit(SQUARE, diary), foretold(SQUARE, diary, (0, 1))), wanted)
        diary.append((("call", (0, 1)), "barred"))
        self.assertEqual(shapes_that_fit(SQUARE, diary), [(((0, 0),), ((1, 1),))])

    def test_what_rules_do(self):
        seen = set()
        for (ins, outs), middles, turn in product(SIDES, (1, 2, 3), range(4)):
            exchange = Exchange(ins, outs, middles)
            deeds = some_row(exchange, (5, 9, 16, 30)[turn], turn, 0.65)
            for word in Rule.WORDS:
                rule = Rule(exchange, word)
                for keep in (lambda n: True, lambda n: n % 3 == 0, lambda n: False):
                    diary = diary_of(rule, deeds, keep)
                    many = self.assert_fit(exchange, diary)
                    self.assertGreater(many, 0)
                    seen.add(many)
        self.assertLessEqual({1, 2, 3, 4}, seen)

    def test_what_nobody_did(self):
        # Each call told by turns, whether or not it can be.
        seen = set()
        for (ins, outs), middles, turn in product(SIDES, (1, 2, 3), range(6)):
            exchange = Exchange(ins, outs, middles)
            deeds = some_row(exchange, 4 + turn, turn, 0.7)
            for shift in range(5):
                turns = (None, "let", "let", "barred", None, "let")
                told = [turns[(at * (1 + shift) + turn) % 6] for at in range(30)]
                diary = [(deed, None if deed[0] == "end" else told[at]) for at, deed in enumerate(deeds)]
                seen.add(self.assert_fit(exchange, diary))
        self.assertLessEqual({0, 1, 2, 3}, seen)

    def test_all_ways_to_tell_of_a_short_row(self):
        for (ins, outs), middles in product(SIDES, (1, 2)):
            exchange = Exchange(ins, outs, middles)
            deeds = some_row(exchange, 5, 1, 0.8)
            calls = [at for at, deed in enumerate(deeds) if deed[0] == "call"]
            for told in product((None, "let", "barred"), repeat=len(calls)):
                noted = dict(zip(calls, told))
                self.assert_fit(exchange, [(deed, noted.get(at)) for at, deed in enumerate(deeds)])

    def test_no_call_is_refused_where_a_middle_is_free(self):
        self.assertFalse(can_be(SQUARE, [(("call", (0, 0)), "barred")]))
        self.assertEqual(shapes_that_fit(SQUARE, [(("call", (0, 0)), "barred")]), [])
        self.assertEqual(foretold(SQUARE, [(("call", (0, 0)), "barred")], (0, 0)), (False, False))
        one = Exchange.square(2, 2, 1)
        self.assertFalse(can_be(one, [(("call", (0, 0)), None), (("call", (0, 1)), "let")]))
        self.assertTrue(can_be(one, [(("call", (0, 0)), None), (("call", (0, 1)), "barred")]))
        # What comes later tells of what came before.
        diary = [(("call", (0, 0)), None), (("call", (0, 1)), None), (("end", 0), None), (("call", (0, 1)), "let")]
        self.assertEqual(shapes_that_fit(one, diary), [(((0, 1),),)])
        self.assertFalse(can_be(one, diary[:1] + [(("call", (0, 1)), "let")]))

    def test_which_of_two_calls_of_a_pair_ends(self):
        exchange = Exchange((3, 3), (3, 3), 2)
        diary = [(("call", (0, 0)), None), (("call", (1, 1)), None), (("call", (0, 0)), None), (("call", (0, 1)), None)]
        for ends in ([0], [2], [1], [0, 1], [2, 1], [3], [3, 0]):
            self.assert_fit(exchange, diary + [(("end", n), None) for n in ends])

    def test_the_diary_without_items(self):
        for exchange in [SQUARE, Exchange((1,), (1,), 3)]:
            none = ((),) * exchange.middles
            self.assertEqual(shapes_that_fit(exchange, []), [none])
            self.assertTrue(can_be(exchange, []))
            self.assertEqual(foretold(exchange, [], (0, 0)), (True, False))

    def test_diaries_of_200_items(self):
        for exchange in [Exchange.square(2, 2, 2), Exchange((3, 2), (2, 3), 2), Exchange((4, 4), (4, 4), 2)] + FOUR:
            deeds = some_row(exchange, 200, 5)
            for word, keep in product(("first", "emptiest"), (lambda n: True, lambda n: n % 2 == 0, lambda n: False)):
                diary = diary_of(Rule(exchange, word), deeds, keep)
                self.assertGreater(self.assert_fit(exchange, diary), 0)
                # The last call told otherwise than it was.
                calls = [at for at, (deed, _) in enumerate(diary) if deed[0] == "call"]
                for told in ("let", "barred"):
                    self.assert_fit(exchange, diary[:calls[-1]] + [(diary[calls[-1]][0], told)])

    def test_four_switches_against_two(self):
        for exchange in FOUR:
            for turn in range(8):
                deeds = some_row(exchange, 14, turn, 0.7)
                for keep in (lambda n: n % 2 == 0, lambda n: n > 3):
                    self.assert_fit(exchange, diary_of(Rule(exchange, "last"), deeds, keep))

    def test_the_list_is_new_each_time(self):
        diary = [(("call", (0, 0)), None), (("call", (1, 1)), "let")]
        first = shapes_that_fit(SQUARE, diary)
        same = list(first)
        first.clear()
        self.assertEqual(shapes_that_fit(diary=diary, exchange=SQUARE), same)


class ErrorsTest(unittest.TestCase):
    CALL = (("call", (0, 0)), None)

    def assert_bad(self, diary, at, exchange=SQUARE):
        for exchange in [exchange] + GREAT:
            for work in (can_be, shapes_that_fit, lambda one, two: foretold(one, two, None)):
                self.assertEqual(caught(BadDiary, lambda: work(exchange, diary)).at, at)

    def test_no_list_or_too_many_items(self):
        for value in odd_values() + [(self.CALL,), {0: self.CALL}]:
            if not isinstance(value, list):
                self.assert_bad(value, -1)
        self.assert_bad([self.CALL] * 201, -1)
        self.assert_bad([7] * 201, -1)
        self.assert_bad([7] * 200, 0)
        rows = [item for n in range(101) for item in (self.CALL, (("end", n), None))]
        self.assert_bad(rows, -1)
        self.assertTrue(can_be(SQUARE, rows[:200]))

    def test_odd_items(self):
        odd = [[("call", (0, 0)), None], (("call", (0, 0)),), (("call", (0, 0)), None, None), ("call", (0, 0))]
        odd += [(["call", (0, 0)], None), (("call", [0, 0]), None), (("call", (0, True)), None), (("call", 0), None)]
        words = ("Let", "", "bar", True, False, 0, 1, (), [], {}, ("let",), ["let"])
        odd += [(("call", (0, 0)), told) for told in words]
        odd += [(("end", 0), told) for told in ("let", "barred", False, 0, "")]
        odd += [(("end", number), None) for number in (True, "0", 1, -1, None)] + [(("ends", 0), None)]
        odd += [(("call", (4, 0)), None), (("call", (0, 0), 0), None), (None, "let"), (7, "barred"), ((), None)]
        odd += [(("call", (0, 0)), value) for value in odd_values() if value is not None]
        odd += odd_values() + [(value, "let") for value in odd_values() if value != ("call", (0, 0))]
        odd += odd_items(self.CALL)
        for value in odd:
            if isinstance(value, tuple) and value == self.CALL and kinds(value) == kinds(self.CALL):
                continue
            if isinstance(value, tuple) and value[:1] == (("call", (0, 0)),) and value[1:] in (("let",), ("barred",)):
                continue
            self.assert_bad([self.CALL, value], 1)
            self.assert_bad([value, value, self.CALL], 0)

    def test_the_first_deed_at_which_the_row_is_not_right(self):
        end = (("end", 0), None)
        self.assert_bad([self.CALL, end, end], 2, Exchange((1,), (1,), 1))
        diary = [self.CALL, (("call", (1, 1)), "barred"), (("call", (1, 4)), None)]
        self.assert_bad(diary, 2, Exchange((2, 1), (2, 1), 1))
        # A barred call holds its doors, as if it were let.
        one = Exchange((2,), (2,), 1)
        diary = [self.CALL, (("call", (0, 0)), "barred"), self.CALL]
        self.assertEqual(caught(BadDiary, lambda: can_be(one, diary)).at, 2)
        self.assertTrue(can_be(one, diary[:2] + [(("end", 1), None), self.CALL]))
        self.assertTrue(can_be(one, diary[:2] + [(("end", 1), None)] + [(("call", (0, 0)), "barred")]))

    def test_pairs_and_doors(self):
        one = Exchange((2, 1), (2, 1), 1)
        diary = [self.CALL, (("call", (0, 0)), "barred")]
        for pair in odd_values() + odd_items((1, 1)) + [(4, 0), (0, 4), (0, -1), (0, 0, 0)]:
            for exchange in [one, Exchange.square(4, 4, 7), Exchange.square(3, 3, 3)]:
                if not (isinstance(pair, tuple) and kinds(pair) == (tuple, [int, int]) and pair in exchange.pairs()):
                    self.assertIs(caught(NoPair, lambda: foretold(exchange, diary, pair)).thing, pair)
        self.assertEqual(caught(NoDoor, lambda: foretold(one, diary, (0, 0))).side, "in")
        self.assertEqual(caught(NoDoor, lambda: foretold(one, diary, (0, 1))).side, "in")
        self.assertEqual(caught(NoDoor, lambda: foretold(one, diary, (1, 0))).side, "out")
        self.assertEqual(foretold(one, diary, (1, 1)), (True, False))
        self.assertEqual(foretold(one, diary + [(("end", 1), None)], (0, 0)), (False, True))
        # A diary that can not be has its doors, too.
        never = [(("call", (0, 0)), "barred")] * 2
        self.assertEqual(caught(NoDoor, lambda: foretold(one, never, (0, 1))).side, "in")
        self.assertEqual(foretold(one, never, (1, 1)), (False, False))

    def test_too_many_shapes_come_last(self):
        for exchange in GREAT:
            call = [self.CALL] * exchange.ins[0]
            for diary in ([], call, [(("call", (0, 0)), "barred")]):
                for work in (can_be, shapes_that_fit, lambda one, two: foretold(one, two, (1, 1))):
                    self.assertEqual(caught(TooMany, lambda: work(exchange, diary)).most, 1000)
            self.assertEqual(caught(NoDoor, lambda: foretold(exchange, call, (0, 1))).side, "in")
            self.assertEqual(caught(NoDoor, lambda: foretold(exchange, call, (1, 0))).side, "out")
        # This one has just 1000 shapes.
        self.assertTrue(can_be(Exchange((2, 1, 1), (3, 3, 2, 1), 3), [self.CALL]))

    def test_each_function_is_defined_in_the_module(self):
        for name in "can_be shapes_that_fit foretold".split():
            self.assertEqual(getattr(back, name).__module__, "callsthrough.back")


if __name__ == "__main__":
    unittest.main()
