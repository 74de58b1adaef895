import unittest
from random import Random

from callsthrough import live
from callsthrough.errors import BadDeed, CallError, NoCall, NoDoor, NoPair, NoRoom, TooMany, Unlike
from callsthrough.exchanges import Exchange
from callsthrough.live import Desk
from callsthrough.moves import least_moves
from callsthrough.rules import Rule, played
from callsthrough.standings import all_shapes, is_standing
from tests.helper import caught, frees, kinds, odd_items, odd_values, opens, places_of, some_row, some_table

SQUARE = Exchange.square(2, 2, 2)
SOME = [
    SQUARE, Exchange((2, 1), (2, 1), 2), Exchange((3, 2), (2, 3), 3), Exchange((2, 2, 2), (2, 2, 2), 2),
    Exchange((2,), (2,), 1), Exchange.square(3, 2, 2), Exchange((3, 1, 2), (2, 2), 2), Exchange.square(4, 1, 1),
]


def look(desk):
    """All that a desk answers, but for its rule."""
    return desk.standing(), desk.up(), len(desk), desk.let, desk.barred, desk.moved


def next_number(desk):
    """The number of the next call, by a call that has the desk for itself; all is taken back."""
    up = desk.up()
    for n, _, _ in up:
        desk.end(n)
    desk.force((0, 0))
    number = desk.up()[0][0]
    for _ in range(len(up) + 1):
        desk.undo()
    return number


def desk_of(exchange, choice="first", deeds=()):
    desk = Desk(Rule(exchange, choice))
    for word, thing in deeds:
        desk.call(thing) if word == "call" else desk.end(thing)
    return desk


class DeskTest(unittest.TestCase):

    def assert_whole(self, desk, exchange):
        """What holds at each time."""
        standing, up = desk.standing(), desk.up()
        self.assertTrue(is_standing(exchange, standing))
        self.assertEqual(up, sorted(up))
        self.assertEqual(len({n for n, _, _ in up}), len(up))
        self.assertEqual(sorted((pair, k) for _, pair, k in up), sorted(places_of(standing)))
        self.assertEqual(len(desk), len(up))
        self.assertEqual(kinds(up), (list, [(tuple, [int, (tuple, [int, int]), int])] * len(up)))
        self.assertEqual(kinds((desk.let, desk.barred, desk.moved)), (tuple, [int] * 3))
        for pair in exchange.pairs():
            self.assertIs(pair in desk, pair in [call for _, call, _ in up])

    def test_example_of_the_interface(self):
        desk = Desk(Rule(SQUARE, "emptiest"))
        told = [desk.call((0, 0)), desk.call((1, 1)), desk.call((0, 1)), desk.force((0, 1))]
        self.assertEqual((told, len(desk), desk.let, desk.barred, desk.moved), ([0, 1, None, 1], 3, 3, 1, 1))

    def test_at_the_start(self):
        for exchange in SOME:
            rule = Rule(exchange, "last")
            desk = Desk(rule)
            self.assertEqual(look(desk), (((),) * exchange.middles, [], 0, 0, 0, 0))
            self.assertIs(desk.rule, rule)
            self.assertIs(desk.undo(), False)
            self.assertNotIn((0, 0), desk)
            self.assertEqual(next_number(desk), 0)

    def test_calls_and_ends_as_rules_play_them(self):
        # In these rows no barred call is ended, so the desk and played do the same.
        for exchange in SOME:
            choices = Rule.WORDS
            if len(all_shapes(exchange)) < 100:
                choices += (some_table(exchange),)
            for choice in choices:
                rule, desk = Rule(exchange, choice), Desk(Rule(exchange, choice))
                deeds = some_row(exchange, 60, 3)
                calls = [k for (k, _), (word, _) in zip(played(rule, deeds), deeds) if word == "call"]
                let = barred = 0
                for deed, (k, standing) in zip(deeds, played(rule, deeds)):
                    if deed[0] == "call":
                        self.assertEqual(desk.call(deed[1]), k)
                        let, barred = let + (k is not None), barred + (k is None)
                    elif calls[deed[1]] is not None:
                        self.assertIsNone(desk.end(deed[1]))
                    else:
                        self.assertEqual(caught(NoCall, lambda: desk.end(deed[1])).thing, deed[1])
                    self.assertEqual(desk.standing(), standing)
                    self.assertEqual((desk.let, desk.barred, desk.moved), (let, barred, 0))
                    self.assert_whole(desk, exchange)

    def test_numbers_count_barred_calls_too(self):
        desk = desk_of(Exchange((3,), (3,), 1))
        self.assertEqual([desk.call((0, 0)), desk.call((0, 0)), desk.call((0, 0))], [0, None, None])
        self.assertEqual(desk.up(), [(0, (0, 0), 0)])
        for n in (1, 2, 3):
            self.assertEqual(caught(NoCall, lambda: desk.end(n)).thing, n)
        desk.end(0)
        self.assertEqual(desk.call((0, 0)), 0)
        self.assertEqual(desk.up(), [(3, (0, 0), 0)])
        self.assertEqual((desk.let, desk.barred, desk.moved, len(desk)), (2, 2, 0, 1))

    def test_doors_by_the_calls_that_are_up(self):
        # A barred call holds no door, other than in a row of deeds.
        desk = desk_of(Exchange((2, 1), (2, 1), 1))
        desk.call((0, 0))
        self.assertEqual([desk.call((0, 0)) for _ in range(5)], [None] * 5)
        self.assertEqual(desk.barred, 5)
        full = desk_of(Exchange((1, 2), (1, 2), 3))
        full.call((0, 0))
        self.assertEqual(caught(NoDoor, lambda: full.call((0, 0))).side, "in")
        self.assertEqual(caught(NoDoor, lambda: full.call((0, 1))).side, "in")
        self.assertEqual(caught(NoDoor, lambda: full.call((1, 0))).side, "out")
        self.assertEqual(caught(NoDoor, lambda: full.force((0, 0))).side, "in")
        self.assertEqual(caught(NoDoor, lambda: full.force((1, 0))).side, "out")
        full.end(0)
        self.assertEqual(full.call((1, 0)), 0)

    def test_odd_pairs(self):
        desk = desk_of(SQUARE, "last", [("call", (0, 1))])
        for value in odd_values() + odd_items((0, 1)) + [(2, 0), (0, 2), (-1, 0), (0, 1, 1), ((0, 1),)]:
            right = isinstance(value, tuple) and kinds(value) == (tuple, [int, int]) and value in SQUARE.pairs()
            if not right:
                before = look(desk)
                self.assertIs(caught(NoPair, lambda: desk.call(value)).thing, value)
                self.assertIs(caught(NoPair, lambda: desk.force(value)).thing, value)
                self.assertIs(value in desk, False)
                self.assertEqual(look(desk), before)
        self.assertIs((0, 1) in desk, True)
        self.assertIs((1, 1) in desk, False)
        self.assertIs([0, 1] in desk, False)
        self.assertIs((False, True) in desk, False)
        self.assertIs({(0, 1): 1} in desk, False)

    def test_odd_numbers(self):
        desk = desk_of(SQUARE, "first", [("call", (0, 0)), ("call", (0, 1)), ("end", 0)])
        self.assertEqual([n for n, _, _ in desk.up()], [1])
        for value in odd_values() + ["1", (1,), [1], {1: 1}, 2, -1]:
            if kinds(value) is not int or value != 1:
                before = look(desk)
                self.assertIs(caught(NoCall, lambda: desk.end(value)).thing, value)
                self.assertEqual(look(desk), before)
        self.assertIsNone(desk.end(1))
        self.assertEqual(caught(NoCall, lambda: desk.end(1)).thing, 1)

    def test_answers_are_new_each_time(self):
        desk = desk_of(SQUARE, "first", [("call", (0, 0))])
        up = desk.up()
        up.clear()
        self.assertEqual(desk.up(), [(0, (0, 0), 0)])
        desk.trial([("call", (0, 1))]).append(7)
        self.assertEqual(desk.trial([("call", (0, 1))]), [1])

    def test_properties_are_only_read(self):
        desk = desk_of(SQUARE)
        for name in "let barred moved rule".split():
            before = getattr(desk, name)
            with self.assertRaises(AttributeError):
                setattr(desk, name, 7)
            self.assertIs(getattr(desk, name), before)

    def test_each_method_is_defined_in_the_class(self):
        self.assertEqual(Desk.__module__, "callsthrough.live")
        names = "standing up call end force undo take_rule trial watch let barred moved rule __len__ __contains__"
        for name in names.split():
            self.assertIn(name, vars(Desk))
        self.assertIs(live.Desk, Desk)


class ForceTest(unittest.TestCase):

    def assert_forced(self, desk, pair):
        before, up = look(desk), desk.up()
        number = next_number(desk)
        moves = least_moves(desk.rule.exchange, desk.standing(), pair)
        self.assertEqual(look(desk), before)
        told = desk.force(pair)
        self.assertEqual(told, moves)
        self.assertIs(told.__class__, int)
        self.assertEqual((desk.let, desk.barred, desk.moved), (before[3] + 1, before[4], before[5] + moves))
        after = {n: (call, k) for n, call, k in desk.up()}
        self.assertEqual(desk.up(), sorted(desk.up()))
        self.assertEqual(sorted(after), sorted([n for n, _, _ in up] + [number]))
        self.assertEqual(after[number][0], pair)
        self.assertEqual(sorted(after.values()), sorted(places_of(desk.standing())))
        self.assertEqual(len(places_of(before[0]) - places_of(desk.standing())), moves)
        changed = 0
        for n, call, k in up:
            self.assertEqual(after[n][0], call)
            if (call, k) in places_of(desk.standing()):
                self.assertEqual(after[n], (call, k))
            else:
                changed += 1
        self.assertEqual(changed, moves)
        self.assertTrue(is_standing(desk.rule.exchange, desk.standing()))
        return told

    def test_many_calls_forced(self):
        seen = set()
        for exchange in SOME:
            for turn, word in enumerate(Rule.WORDS):
                chance = Random(turn)
                desk = desk_of(exchange, word)
                for _ in range(60):
                    pairs = opens(exchange, desk.standing())
                    if pairs and chance.random() < 0.75:
                        pair = chance.choice(pairs)
                        if least_moves(exchange, desk.standing(), pair) is None:
                            before = look(desk)
                            self.assertEqual(caught(NoRoom, lambda: desk.force(pair)).middles, exchange.middles)
                            self.assertEqual(look(desk), before)
                        elif frees(desk.standing(), pair) and chance.random() < 0.5:
                            desk.call(pair)
                        else:
                            seen.add(self.assert_forced(desk, pair))
                    if len(desk) and chance.random() < 0.4:
                        desk.end(chance.choice(desk.up())[0])
        self.assertEqual(seen, {0, 1})

    def test_several_moves(self):
        # For each number of moves a shape that needs them; "first" and "last" put its calls into the two middles.
        exchange = Exchange.square(3, 2, 2)
        most = {}
        for shape in all_shapes(exchange):
            for pair in opens(exchange, shape):
                most.setdefault(least_moves(exchange, shape, pair), (shape, pair))
        self.assertLessEqual({0, 1, 2}, set(most))
        for moves, (shape, pair) in most.items():
            desk = desk_of(exchange)
            for k, load in enumerate(shape):
                desk.take_rule(Rule(exchange, ("first", "last")[k]))
                for call in load:
                    desk.call(call)
            self.assertEqual(desk.standing(), shape)
            if moves is not None:
                self.assertEqual(self.assert_forced(desk, pair), moves)

    def test_errors_in_their_order(self):
        desk = desk_of(Exchange((2, 1), (2, 1), 1), "first", [("call", (0, 0))])
        self.assertEqual(caught(NoPair, lambda: desk.force((2, 0))).thing, (2, 0))
        self.assertEqual(caught(NoRoom, lambda: desk.force((0, 0))).middles, 1)
        self.assertEqual(caught(NoRoom, lambda: desk.force((0, 1))).middles, 1)
        desk.end(0)
        desk.call((1, 1))
        self.assertEqual(caught(NoDoor, lambda: desk.force((1, 1))).side, "in")
        self.assertEqual(caught(NoDoor, lambda: desk.force((1, 0))).side, "in")
        self.assertEqual(caught(NoDoor, lambda: desk.force((0, 1))).side, "out")
        self.assertEqual(desk.force((0, 0)), 0)
        self.assertEqual(desk.up(), [(1, (1, 1), 0), (2, (0, 0), 0)])

    def test_too_many_standings(self):
        # Each middle serves another call of input switch 0 or of output switch 0, so the call is barred.
        exchange = Exchange.square(4, 4, 6)
        desk = desk_of(exchange, "emptiest")
        for pair in [(0, 1), (1, 0), (0, 2), (2, 0), (0, 3), (3, 0)]:
            self.assertIsNotNone(desk.call(pair))
        self.assertEqual(frees(desk.standing(), (0, 0)), [])
        before = look(desk)
        self.assertEqual(caught(TooMany, lambda: desk.force((0, 0))).most, 2000)
        self.assertEqual(caught(TooMany, lambda: least_moves(exchange, desk.standing(), (0, 0))).most, 2000)
        self.assertEqual(look(desk), before)
        self.assertIsNone(desk.call((0, 0)))
        self.assertEqual(desk.barred, 1)
        # Where a middle is free, the number of standings does not matter.
        self.assertEqual(desk.force((1, 1)), 0)


class UndoTest(unittest.TestCase):

    def test_long_rows_back_to_the_start(self):
        for exchange in SOME:
            for word in Rule.WORDS:
                chance = Random(word)
                desk, seen = desk_of(exchange, word), []
                for _ in range(150):
                    before = look(desk)
                    done = self.some_step(desk, chance)
                    if done:
                        seen.append(before)
                    else:
                        self.assertEqual(look(desk), before)
                    if seen and chance.random() < 0.2:
                        self.assertIs(desk.undo(), True)
                        self.assertEqual(look(desk), seen.pop())
                for before in reversed(seen):
                    self.assertIs(desk.undo(), True)
                    self.assertEqual(look(desk), before)
                self.assertEqual(look(desk), (((),) * exchange.middles, [], 0, 0, 0, 0))
                for _ in range(2):
                    self.assertIs(desk.undo(), False)
                    self.assertEqual(look(desk), (((),) * exchange.middles, [], 0, 0, 0, 0))
                self.assertEqual(next_number(desk), 0)

    def some_step(self, desk, chance):
        """Do a call, an end or a force, right or not; return whether it raised no error."""
        pairs = desk.rule.exchange.pairs() + [None, (0, 9)]
        numbers = [n for n, _, _ in desk.up()] + [10 ** 6, True, "0"]
        works = [
            lambda: desk.call(chance.choice(pairs)), lambda: desk.force(chance.choice(pairs)),
            lambda: desk.end(chance.choice(numbers)), lambda: desk.call(chance.choice(pairs)),
        ]
        try:
            chance.choice(works)()
        except CallError:
            return False
        return True

    def test_the_number_of_the_next_call(self):
        desk = desk_of(Exchange((2, 2), (2, 2), 1))
        desk.call((0, 0))
        self.assertIsNone(desk.call((0, 1)))
        self.assertEqual(next_number(desk), 2)
        self.assertEqual((desk.barred, desk.undo(), desk.barred), (1, True, 0))
        desk.call((1, 1))
        self.assertEqual(desk.up(), [(0, (0, 0), 0), (1, (1, 1), 0)])
        desk.end(1)
        self.assertEqual(desk.up(), [(0, (0, 0), 0)])
        desk.undo()
        self.assertEqual(desk.up(), [(0, (0, 0), 0), (1, (1, 1), 0)])
        desk.undo()
        self.assertEqual(desk.force((1, 1)), 0)
        self.assertEqual(desk.up(), [(0, (0, 0), 0), (1, (1, 1), 0)])
        self.assertEqual((desk.undo(), desk.undo(), desk.undo()), (True, True, False))

    def test_force_is_taken_back_whole(self):
        desk = desk_of(SQUARE, "emptiest", [("call", (0, 0)), ("call", (1, 1))])
        before = look(desk)
        self.assertEqual(desk.force((0, 1)), 1)
        self.assertEqual((desk.let, desk.moved, len(desk)), (3, 1, 3))
        self.assertIs(desk.undo(), True)
        self.assertEqual(look(desk), before)

    def test_errors_and_rules_are_no_steps(self):
        desk = desk_of(SQUARE, "first", [("call", (0, 0))])
        last = Rule(SQUARE, "last")
        desk.take_rule(last)
        for work in [
            lambda: desk.call((5, 5)), lambda: desk.end(7), lambda: desk.force(None),
            lambda: desk.take_rule(Rule(SQUARE.with_middles(3), "first")), lambda: desk.trial([("end", 9)]),
            lambda: desk.trial(None),
        ]:
            self.assertRaises(CallError, work)
        desk.trial([("call", (1, 1))])
        self.assertIs(desk.undo(), True)
        self.assertEqual(desk.up(), [])
        self.assertIs(desk.rule, last)
        self.assertIs(desk.undo(), False)


class TakeRuleTest(unittest.TestCase):

    def test_an_equal_exchange(self):
        desk = desk_of(SQUARE, "first")
        desk.call((0, 0))
        other = Rule(Exchange((2, 2), (2, 2), 2), "last")
        self.assertIsNone(desk.take_rule(other))
        self.assertIs(desk.rule, other)
        self.assertEqual(desk.call((1, 1)), 1)
        self.assertEqual(desk.up(), [(0, (0, 0), 0), (1, (1, 1), 1)])
        desk.undo()
        self.assertIs(desk.rule, other)
        self.assertEqual(desk.call((1, 1)), 1)

    def test_another_exchange(self):
        desk = desk_of(Exchange((2, 1), (1, 2), 2), "first", [("call", (0, 0))])
        rule, before = desk.rule, look(desk)
        for exchange in [SQUARE, desk.rule.exchange.turned(), desk.rule.exchange.with_middles(3)]:
            unlike = Rule(exchange, "first")
            self.assertEqual(caught(Unlike, lambda: desk.take_rule(unlike)).field, "exchange")
            self.assertIs(desk.rule, rule)
            self.assertEqual(look(desk), before)


NO_ROWS = [
    (value, -1) for value in odd_values() + [(("call", (0, 0)),), {0: ("call", (0, 0))}] if not isinstance(value, list)
] + [([("call", (0, 0))] * 201, -1), ([7] * 201, -1)] + [
    ([("end", 9), value], 1) for value in odd_values() + [
        ["call", (0, 0)], ("call",), ("call", (0, 0), None), ("calls", (0, 0)), (True, 0), ("", 0), (("call", 0),),
        ("end",), ("end", 0, 0), ["end", 0], (["call"], 0), ("force", (0, 0)), ("undo", None),
    ] if value != ("call", (0, 0))
]


class TrialTest(unittest.TestCase):

    def test_as_call_and_end_would(self):
        for exchange in SOME:
            for word in Rule.WORDS:
                desk, other = desk_of(exchange, word), desk_of(exchange, word)
                for one in (desk, other):
                    for deed in some_row(exchange, 9, 1):
                        try:
                            one.call(deed[1]) if deed[0] == "call" else one.end(deed[1])
                        except NoCall:
                            pass
                before, rows = look(desk), []
                for pair in exchange.pairs() * 2:
                    if pair in opens(exchange, other.standing()):
                        rows.append((("call", pair), other.call(pair)))
                for n, _, _ in other.up()[::2]:
                    rows.append((("end", n), other.end(n)))
                deeds = [deed for deed, _ in rows]
                same = list(deeds)
                self.assertEqual(desk.trial(deeds), [told for _, told in rows])
                self.assertEqual(deeds, same)
                self.assertEqual(look(desk), before)
                # It is not a step that undo takes back.
                number = next_number(desk)
                desk.trial(deeds)
                self.assertEqual(next_number(desk), number)
                while desk.undo():
                    pass
                self.assertEqual(look(desk), look(desk_of(exchange, word)))

    def test_an_error_passes_on_and_leaves_all_as_it_was(self):
        desk = desk_of(Exchange((2, 1), (2, 1), 1), "first", [("call", (0, 0)), ("call", (0, 0))])
        before = look(desk)
        for deeds, error, value in [
            ([("end", 0), ("call", (1, 1)), ("end", 0)], NoCall, 0), ([("end", 1)], NoCall, 1),
            ([("end", 2)], NoCall, 2),
            ([("end", 0), ("call", (1, 1)), ("call", None)], NoPair, None), ([("end", True)], NoCall, True),
            ([("call", (1, 1)), ("call", (1, 1))], NoDoor, "in"), ([("call", (1, 1)), ("call", (0, 1))], NoDoor, "out"),
            ([("end", 0), ("call", [0, 0])], NoPair, [0, 0]), ([("call", (1, 1)), ("end", 3)], NoCall, 3),
        ]:
            self.assertIn(value, vars(caught(error, lambda: desk.trial(deeds))).values())
            self.assertEqual(look(desk), before)
        self.assertEqual(desk.trial([("call", (1, 1)), ("end", 2), ("end", 0), ("call", (0, 1))]), [0, None, None, 0])
        self.assertEqual(look(desk), before)
        self.assertEqual((desk.undo(), desk.barred, len(desk)), (True, 0, 1))
        self.assertEqual((desk.undo(), desk.undo()), (True, False))

    def test_bad_deeds_before_any_is_done(self):
        desk = desk_of(SQUARE)
        for deeds, at in NO_ROWS:
            self.assertEqual(caught(BadDeed, lambda: desk.trial(deeds)).at, at)
        self.assertEqual(look(desk), look(desk_of(SQUARE)))
        # The thing is judged when its turn comes.
        for value in odd_values():
            self.assertIs(caught(NoPair, lambda: desk.trial([("call", value)])).thing, value)
            self.assertIs(caught(NoCall, lambda: desk.trial([("end", value)])).thing, value)
            self.assertEqual(caught(NoCall, lambda: desk.trial([("end", 5), ("call", value)])).thing, 5)

    def test_200_deeds(self):
        desk = desk_of(SQUARE)
        deeds = [deed for n in range(100) for deed in (("call", (0, 0)), ("end", n))]
        self.assertEqual(desk.trial(deeds), [0, None] * 100)
        self.assertEqual(desk.trial([]), [])
        self.assertEqual(caught(BadDeed, lambda: desk.trial(deeds + [("call", (0, 0))])).at, -1)


class WatchTest(unittest.TestCase):

    def test_each_deed_is_done_for_good(self):
        for exchange in SOME:
            for word in Rule.WORDS:
                desk, other = desk_of(exchange, word), desk_of(exchange, word)
                deeds = [("call", (0, 0)), ("end", 0), ("call", exchange.pairs()[-1])]
                found = []
                for k, standing in desk.watch(deeds):
                    word_of, thing = deeds[len(found)]
                    self.assertEqual(k, other.call(thing) if word_of == "call" else other.end(thing))
                    self.assertEqual(standing, other.standing())
                    self.assertEqual(look(desk), look(other))
                    found.append((k, standing))
                self.assertEqual(len(found), len(deeds))
                self.assertIsNone(found[1][0])
                for _ in deeds:
                    self.assertIs(desk.undo(), True)
                self.assertIs(desk.undo(), False)

    def test_long_rows(self):
        for exchange in SOME[:4]:
            deeds = some_row(exchange, 200, 1)
            desk, rule = desk_of(exchange, "emptiest"), Rule(exchange, "emptiest")
            wanted = played(rule, deeds)
            middles = [k for (k, _), (word, _) in zip(wanted, deeds) if word == "call"]
            barred = [n for n, k in enumerate(middles) if k is None]
            # The end of a barred call is an error at the desk.
            row = [deed for deed in deeds if deed[0] == "call" or deed[1] not in barred]
            steps = [step for deed, step in zip(deeds, wanted) if deed[0] == "call" or deed[1] not in barred]
            self.assertEqual(list(desk.watch(row)), steps)

    def test_bad_deeds_when_the_first_tuple_is_asked_for(self):
        desk = desk_of(SQUARE)
        for deeds, at in NO_ROWS:
            steps = desk.watch(deeds)
            self.assertEqual(caught(BadDeed, lambda: next(steps)).at, at)
        self.assertEqual(look(desk), look(desk_of(SQUARE)))
        deeds = [deed for n in range(100) for deed in (("call", (0, 0)), ("end", n))]
        self.assertEqual(len(list(desk.watch(deeds))), 200)
        self.assertEqual(list(desk.watch([])), [])
        steps = desk.watch(deeds + [("call", (0, 0))])
        self.assertEqual(caught(BadDeed, lambda: next(steps)).at, -1)

    def test_nothing_is_done_before_it_is_asked_for(self):
        desk = desk_of(SQUARE)
        steps = desk.watch([("call", (0, 0)), ("call", (1, 1))])
        self.assertEqual(len(desk), 0)
        self.assertEqual(next(steps), (0, (((0, 0),), ())))
        self.assertEqual(len(desk), 1)
        self.assertEqual(next(steps)[0], 0)
        self.assertEqual(next(steps, None), None)

    def test_the_caller_uses_the_desk_between_two_tuples(self):
        desk = desk_of(SQUARE, "first")
        steps = desk.watch([("call", (0, 0)), ("call", (1, 1)), ("end", 1), ("call", (0, 1)), ("end", 0)])
        self.assertEqual(next(steps), (0, (((0, 0),), ())))
        self.assertEqual(desk.call((0, 1)), 1)
        desk.take_rule(Rule(SQUARE, "last"))
        self.assertEqual(next(steps), (0, (((0, 0), (1, 1)), ((0, 1),))))
        # The deed ends the call of the caller, since the numbers are those of the desk.
        self.assertEqual(next(steps), (None, (((0, 0), (1, 1)), ())))
        self.assertIs(desk.undo(), True)
        self.assertIs(desk.undo(), True)
        self.assertEqual(desk.up(), [(0, (0, 0), 0), (1, (0, 1), 1)])
        self.assertEqual(caught(NoDoor, lambda: next(steps)).side, "in")
        self.assertEqual(desk.up(), [(0, (0, 0), 0), (1, (0, 1), 1)])
        self.assertEqual(list(steps), [])

    def test_an_error_passes_on_and_the_deeds_before_it_stay_done(self):
        desk = desk_of(SQUARE)
        steps = desk.watch([("call", (0, 0)), ("end", 5), ("call", (1, 1))])
        self.assertEqual(next(steps)[0], 0)
        self.assertEqual(caught(NoCall, lambda: next(steps)).thing, 5)
        self.assertEqual(desk.up(), [(0, (0, 0), 0)])
        for value in odd_values():
            self.assertIs(caught(NoPair, lambda: list(desk.watch([("call", value)]))).thing, value)
            if kinds(value) is not int or value != 0:
                self.assertIs(caught(NoCall, lambda: list(desk.watch([("end", value)]))).thing, value)
        self.assertEqual((desk.undo(), desk.undo()), (True, False))

    def test_a_list_that_changes_between_two_tuples(self):
        desk = desk_of(SQUARE)
        deeds = [("call", (0, 0)), ("call", (1, 1))]
        steps = desk.watch(deeds)
        next(steps)
        deeds.clear()
        self.assertEqual(next(steps)[0], 0)
        self.assertEqual(list(steps), [])


if __name__ == "__main__":
    unittest.main()
