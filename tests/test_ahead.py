import unittest
from itertools import product

from callsthrough import ahead
from callsthrough.ahead import ahead_plan, fewest_lost, plan_fault
from callsthrough.errors import BadDeed, TooMany
from callsthrough.exchanges import Exchange
from tests.helper import caught, kinds, odd_items, odd_values, some_row

SQUARE = Exchange.square(2, 2, 2)
SIDES = [((1,), (1,)), ((2,), (2,)), ((2,), (1, 1)), ((1, 2), (2,)), ((2, 2), (2, 1)), ((2, 2), (2, 2)),
         ((2, 1, 2), (2, 2)), ((2, 2, 2), (2,)), ((1, 1, 2), (1, 2))]
GREAT = [Exchange.square(4, 4, 7), Exchange.square(4, 1, 4), Exchange.square(4, 4, 3), Exchange.square(3, 3, 3)]


def lost_by_trying(exchange, deeds):
    """The least number of refused calls, over all choices: each middle by its own name."""
    ways, came = {(): 0}, 0
    for word, thing in deeds:
        later = {}
        for up, lost in ways.items():
            if word == "end":
                choices = [(tuple(call for call in up if call[0] != thing), lost)]
            else:
                busy = {k for _, (i, o), k in up if i == thing[0] or o == thing[1]}
                choices = [(up, lost + 1)]
                choices += [(up + ((came, thing, k),), lost) for k in range(exchange.middles) if k not in busy]
            for choice, number in choices:
                later[choice] = min(number, later.get(choice, number))
        ways = later
        came += word == "call"
    return min(ways.values())


def plan_fault_by_words(exchange, deeds, plan):
    """The faults of a plan, clause by clause."""
    pairs = [thing for word, thing in deeds if word == "call"]
    if not isinstance(plan, list) or len(plan) != len(pairs):
        return ("form",)
    if any(kinds(k) is not int and k is not None for k in plan):
        return ("form",)
    if any(k is not None and k not in range(exchange.middles) for k in plan):
        return ("form",)
    up, came = {}, 0
    for word, thing in deeds:
        if word == "end":
            up.pop(thing)
            continue
        for pair, k in up.values():
            if k is not None and k == plan[came] and (pair[0] == thing[0] or pair[1] == thing[1]):
                return ("call", came)
        up[came] = (thing, plan[came])
        came += 1
    return None


class FewestLostTest(unittest.TestCase):

    def assert_lost(self, exchange, deeds):
        before = list(deeds)
        lost = fewest_lost(exchange, deeds)
        self.assertEqual(lost, lost_by_trying(exchange, deeds))
        self.assertIs(lost.__class__, int)
        plan = ahead_plan(exchange, deeds)
        self.assertIs(plan.__class__, list)
        self.assertEqual(plan.count(None), lost)
        self.assertIsNone(plan_fault(exchange, deeds, plan))
        self.assertIsNone(plan_fault_by_words(exchange, deeds, plan))
        self.assertEqual(deeds, before)
        return lost

    def test_example_of_the_interface(self):
        deeds = [("call", (0, 0)), ("call", (1, 1)), ("call", (0, 1))]
        one = Exchange.square(2, 2, 1)
        told = (fewest_lost(one, deeds), plan_fault(one, deeds, [0, 0, 0]), plan_fault(one, deeds, [None, None, 0]))
        self.assertEqual(told, (1, ("call", 2), None))

    def test_rows_of_40_deeds(self):
        seen = set()
        for (ins, outs), middles, turn in product(SIDES, (1, 2, 3), range(6)):
            exchange = Exchange(ins, outs, middles)
            for many in (3, 9, 20, 40):
                seen.add(self.assert_lost(exchange, some_row(exchange, many, turn, (0.5, 0.6, 0.8)[turn % 3])))
        self.assertGreater(len(seen), 8, seen)

    def test_rows_of_200_deeds(self):
        seen = set()
        sides = [((2, 2), (2, 2)), ((4, 3), (3, 4)), ((4, 4), (4, 4))]
        for (ins, outs), middles, turn in product(sides, (1, 2), (0, 1)):
            exchange = Exchange(ins, outs, middles)
            for calls in (0.5, 0.7):
                seen.add(self.assert_lost(exchange, some_row(exchange, 150 + 50 * turn, turn, calls)))
        self.assertGreater(max(seen), 20, seen)
        self.assertGreater(len(seen), 8, seen)

    def test_greater_exchanges(self):
        for ins, outs, middles in [
            ((4, 4, 3), (4, 3, 2), 2), ((4, 4), (3, 3, 1, 1), 3), ((4, 4), (3, 3, 1), 5), ((1, 1, 1, 1), (4, 2), 3),
            ((2, 1, 1), (3, 3, 2, 1), 3),
        ]:
            exchange = Exchange(ins, outs, middles)
            deeds = some_row(exchange, 200, 0, 0.75)
            lost, plan = fewest_lost(exchange, deeds), ahead_plan(exchange, deeds)
            self.assertEqual(plan.count(None), lost)
            self.assertIsNone(plan_fault_by_words(exchange, deeds, plan))
            # Playing each call at once by the least free middle loses no fewer.
            self.assertLessEqual(lost, self.lost_by_the_first(exchange, deeds))
        exchange = Exchange((2, 1, 1), (2, 2), 2)
        self.assert_lost(exchange, some_row(exchange, 200, 3, 0.7))

    def lost_by_the_first(self, exchange, deeds):
        plan, pairs = [], []
        for at, (word, thing) in enumerate(deeds):
            if word == "call":
                pairs.append(thing)
                tried = [plan + [k] for k in list(range(exchange.middles)) + [None]]
                plan = [one for one in tried if plan_fault_by_words(exchange, deeds[:at + 1], one) is None][0]
        return plan.count(None)

    def test_all_plans_of_short_rows(self):
        for (ins, outs), middles, turn in product(SIDES, (1, 2), range(3)):
            exchange = Exchange(ins, outs, middles)
            deeds = some_row(exchange, 8, turn, 0.7)
            many = len([word for word, _ in deeds if word == "call"])
            plans = [list(plan) for plan in product([None, *range(middles)], repeat=many)]
            lost = [plan.count(None) for plan in plans if plan_fault_by_words(exchange, deeds, plan) is None]
            self.assertEqual(fewest_lost(exchange, deeds), min(lost))

    def test_a_call_is_refused_although_a_middle_is_free(self):
        exchange = Exchange((2,), (2,), 1)
        deeds = [("call", (0, 0))]
        for n in range(1, 6):
            deeds += [("call", (0, 0)), ("end", n)]
        self.assertEqual(fewest_lost(exchange, deeds), 1)
        self.assertEqual(ahead_plan(exchange, deeds), [None, 0, 0, 0, 0, 0])
        self.assertEqual(fewest_lost(exchange, deeds[:2]), 1)
        self.assertEqual(fewest_lost(exchange, deeds + [("end", 0)]), 1)

    def test_calls_that_keep_out_of_each_others_way(self):
        # The first two calls must share a middle, or the third has none.
        deeds = [("call", (0, 0)), ("call", (1, 1)), ("call", (0, 1))]
        self.assertEqual(fewest_lost(SQUARE, deeds), 0)
        plan = ahead_plan(SQUARE, deeds)
        self.assertTrue(plan[0] == plan[1] != plan[2])

    def test_the_row_without_deeds(self):
        for exchange in [SQUARE, Exchange((1,), (1,), 1)]:
            self.assertEqual(fewest_lost(exchange, []), 0)
            self.assertEqual(ahead_plan(exchange, []), [])
            self.assertIsNone(plan_fault(exchange, [], []))

    def test_the_plan_is_new_each_time(self):
        deeds = [("call", (0, 0)), ("call", (1, 1)), ("end", 0)]
        plan = ahead_plan(SQUARE, deeds)
        same = list(plan)
        plan.clear()
        self.assertEqual(ahead_plan(deeds=deeds, exchange=SQUARE), same)

    def test_bad_deeds_before_too_many_shapes(self):
        call = ("call", (0, 0))
        bad = [(value, -1) for value in odd_values() + [[call] * 201, (call,)] if not isinstance(value, list)]
        bad += [([call] * 201, -1), ([call, 7], 1), ([("end", 0)], 0), ([call, ("end", 0), ("end", 0)], 2)]
        bad += [([call, ("end", True)], 1), ([call, ["end", 0]], 1), ([("call", (0, 4))], 0), ([call] * 5, None)]
        for exchange in [SQUARE] + GREAT:
            for deeds, at in bad:
                if at is None:
                    at = exchange.ins[0]
                for work in (fewest_lost, ahead_plan, lambda one, row: plan_fault(one, row, None)):
                    self.assertEqual(caught(BadDeed, lambda: work(exchange, deeds)).at, at)

    def test_too_many_shapes(self):
        for exchange in GREAT:
            for deeds in ([], [("call", (0, 0))], some_row(exchange, 200)):
                for work in (fewest_lost, ahead_plan):
                    self.assertEqual(caught(TooMany, lambda: work(exchange, deeds)).most, 1000)
        # This one has just 1000 shapes.
        self.assertEqual(fewest_lost(Exchange((2, 1, 1), (3, 3, 2, 1), 3), [("call", (0, 0))]), 0)


class PlanFaultTest(unittest.TestCase):

    def test_all_plans(self):
        seen = set()
        for (ins, outs), middles, turn in product(SIDES, (1, 2, 3), range(2)):
            exchange = Exchange(ins, outs, middles)
            deeds = some_row(exchange, 6, turn, 0.7)
            many = len([word for word, _ in deeds if word == "call"])
            for plan in product([None, *range(-1, middles + 1)], repeat=many):
                plan = list(plan)
                before = list(plan)
                fault = plan_fault(exchange, deeds, plan)
                self.assertEqual(fault, plan_fault_by_words(exchange, deeds, plan))
                self.assertEqual(plan, before)
                seen.add(fault and fault[0])
        self.assertEqual(seen, {None, "form", "call"})

    def test_form(self):
        deeds = [("call", (0, 0)), ("call", (1, 1)), ("end", 0), ("call", (0, 0))]
        for plan in ([0, 0, 0], [None, None, None], [0, 1, 1], [1, None, 0]):
            self.assertIsNone(plan_fault(SQUARE, deeds, plan))
            self.assertEqual(plan_fault(SQUARE, deeds, tuple(plan)), ("form",))
            self.assertEqual(plan_fault(SQUARE, deeds, plan + [None]), ("form",))
            self.assertEqual(plan_fault(SQUARE, deeds, plan[:-1]), ("form",))
            for value in odd_values() + odd_items(0) + [2, -1, 10 ** 30]:
                for at in range(3):
                    spoiled = plan[:at] + [value] + plan[at + 1:]
                    if value is not None and (kinds(value) is not int or not 0 <= value <= 1):
                        self.assertEqual(plan_fault(SQUARE, deeds, spoiled), ("form",))
        for value in odd_values():
            self.assertEqual(plan_fault(SQUARE, deeds, value), ("form",))
            if not isinstance(value, list) or value:
                self.assertEqual(plan_fault(SQUARE, [], value), ("form",))

    def test_the_first_call_whose_middle_is_busy(self):
        deeds = [("call", (0, 0)), ("call", (0, 1)), ("call", (1, 1)), ("end", 0), ("call", (0, 0)), ("end", 1)]
        self.assertEqual(plan_fault(SQUARE, deeds, [0, 0, 0, 0]), ("call", 1))
        self.assertEqual(plan_fault(SQUARE, deeds, [0, 1, 1, 0]), ("call", 2))
        self.assertEqual(plan_fault(SQUARE, deeds, [0, 1, 0, 1]), ("call", 3))
        self.assertIsNone(plan_fault(SQUARE, deeds, [0, 1, 0, 0]))
        self.assertIsNone(plan_fault(SQUARE, deeds, [0, None, 0, 0]))
        self.assertIsNone(plan_fault(SQUARE, deeds, [None, 0, None, 1]))
        # The form is judged before the first call.
        self.assertEqual(plan_fault(SQUARE, deeds, [0, 0, 0, 2]), ("form",))
        self.assertEqual(kinds(plan_fault(SQUARE, deeds, [0, 0, 0, 0])), (tuple, [str, int]))

    def test_no_error_for_the_number_of_shapes(self):
        for exchange in GREAT:
            deeds = some_row(exchange, 200)
            many = len([word for word, _ in deeds if word == "call"])
            self.assertIsNone(plan_fault(exchange, deeds, [None] * many))
            self.assertEqual(plan_fault(exchange, deeds, [0] * many), plan_fault_by_words(exchange, deeds, [0] * many))
            self.assertEqual(plan_fault(exchange, deeds, []), ("form",))


class InterfaceTest(unittest.TestCase):

    def test_each_function_is_defined_in_the_module(self):
        for name in "fewest_lost ahead_plan plan_fault".split():
            self.assertEqual(getattr(ahead, name).__module__, "callsthrough.ahead")


if __name__ == "__main__":
    unittest.main()
