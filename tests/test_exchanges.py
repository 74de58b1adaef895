import unittest

from callsthrough.errors import BadExchange
from callsthrough.exchanges import Exchange
from callsthrough.shares import Share
from tests.helper import caught, no_integers, odd_integers


def parts(exchange):
    return exchange.ins, exchange.outs, exchange.middles


def bad_sides():
    """Values that are no doors of a side: other kinds, wrong lengths, an odd item at each index."""
    found = [value for value in no_integers() if value != (1,) and value != (1, 2)] + odd_integers() + [1, 4]
    found += [(), (1,) * 5, (4, 3, 2, 1, 1), (1,) * 1000, [1], [1, 2, 3, 4], {0: 1}, {1: 1}, "12", ((1,),), ([1],)]
    for length in range(1, 5):
        for at in range(length):
            for odd in no_integers() + odd_integers() + [0, 5]:
                found.append((1,) * at + (odd,) + (4,) * (length - at - 1))
    return found


def bad_numbers(most):
    return no_integers() + odd_integers() + [0, most + 1]


class MakingTest(unittest.TestCase):

    def field(self, *given):
        return caught(BadExchange, lambda: Exchange(*given)).field

    def test_example_of_the_interface(self):
        self.assertEqual(Exchange((2,), (1, 3), 4).turned().pairs(), [(0, 0), (1, 0)])

    def test_the_attributes_hold_the_values(self):
        for ins in ((1,), (4,), (1, 4), (4, 3, 2, 1), (4, 4, 4, 4), (1, 1, 1, 1)):
            for outs in ((1,), (4,), (2, 3), (1, 2, 3), (4, 4, 4, 4)):
                for middles in range(1, 8):
                    self.assertEqual(parts(Exchange(ins, outs, middles)), (ins, outs, middles))

    def test_arguments_by_name(self):
        self.assertEqual(parts(Exchange(middles=7, outs=(1, 2), ins=(3,))), ((3,), (1, 2), 7))

    def test_bad_ins(self):
        for side in bad_sides():
            self.assertEqual(self.field(side, (1, 2), 3), "ins")

    def test_bad_outs(self):
        for side in bad_sides():
            self.assertEqual(self.field((1, 2), side, 3), "outs")

    def test_bad_middles(self):
        for middles in bad_numbers(7):
            self.assertEqual(self.field((1, 2), (3,), middles), "middles")

    def test_the_first_bad_argument_is_named(self):
        bad = [None, (), [1], (True,), (5,), Share(1), {}]
        for ins in bad:
            for outs in bad + [(1,)]:
                for middles in bad + [0, 8, True, 1]:
                    self.assertEqual(self.field(ins, outs, middles), "ins")
        for outs in bad:
            for middles in bad + [0, 8, True, 1]:
                self.assertEqual(self.field((1,), outs, middles), "outs")

    def test_bad_lists_and_dicts_stay_as_they_were(self):
        doors, table = [1, 2], {1: [2]}
        self.field(doors, (1,), 1)
        self.field((1,), table, 1)
        self.field((1,), (1,), doors)
        self.assertEqual((doors, table), ([1, 2], {1: [2]}))


class EqualityTest(unittest.TestCase):

    def assert_equal_flag(self, one, other, flag):
        self.assertIs(one == other, flag)
        self.assertIs(other == one, flag)
        self.assertIs(one != other, not flag)

    def test_equal_in_all_three(self):
        self.assert_equal_flag(Exchange((1, 2), (3,), 4), Exchange((1, 2), (3,), 4), True)
        exchange = Exchange((1,), (1,), 1)
        self.assert_equal_flag(exchange, exchange, True)

    def test_one_of_the_three_differs(self):
        exchange = Exchange((1, 2), (3,), 4)
        for other in [((2, 1), (3,), 4), ((1,), (3,), 4), ((1, 2), (4,), 4), ((1, 2), (3, 3), 4), ((1, 2), (3,), 5)]:
            self.assert_equal_flag(exchange, Exchange(*other), False)

    def test_values_that_are_no_exchanges(self):
        exchange = Exchange((1,), (1,), 1)
        for other in [((1,), (1,), 1), [(1,), (1,), 1], None, 1, True, "1|1|1", {}, Share(1), Exchange]:
            self.assert_equal_flag(exchange, other, False)


class MethodsTest(unittest.TestCase):

    def test_with_middles(self):
        exchange = Exchange((1, 2), (3,), 4)
        for middles in range(1, 8):
            self.assertEqual(parts(exchange.with_middles(middles)), ((1, 2), (3,), middles))
        self.assertEqual(exchange.with_middles(middles=2), Exchange((1, 2), (3,), 2))
        self.assertIs(type(exchange.with_middles(4)), Exchange)
        self.assertEqual(parts(exchange), ((1, 2), (3,), 4))

    def test_with_bad_middles(self):
        exchange = Exchange((1, 2), (3,), 4)
        for middles in bad_numbers(7):
            self.assertEqual(caught(BadExchange, lambda: exchange.with_middles(middles)).field, "middles")
        self.assertEqual(parts(exchange), ((1, 2), (3,), 4))

    def test_turned(self):
        exchange = Exchange((1, 2), (3,), 4)
        self.assertEqual(parts(exchange.turned()), ((3,), (1, 2), 4))
        self.assertEqual(exchange.turned().turned(), exchange)
        self.assertEqual(parts(exchange), ((1, 2), (3,), 4))

    def test_pairs(self):
        self.assertEqual(Exchange((1, 2), (3, 1, 4), 4).pairs(), [(0, 0), (0, 1), (0, 2), (1, 0), (1, 1), (1, 2)])
        self.assertEqual(Exchange((4,), (4,), 7).pairs(), [(0, 0)])
        for many in range(1, 5):
            for other in range(1, 5):
                pairs = Exchange((1,) * many, (4,) * other, 1).pairs()
                self.assertEqual(pairs, sorted(set(pairs)))
                self.assertEqual(len(pairs), many * other)
                self.assertEqual(set(pairs), {(i, o) for i in range(many) for o in range(other)})
                self.assertEqual({type(pair) for pair in pairs}, {tuple})
                self.assertEqual({type(number) for pair in pairs for number in pair}, {int})

    def test_pairs_are_a_new_list_each_time(self):
        exchange = Exchange((1, 2), (3,), 4)
        pairs = exchange.pairs()
        self.assertIs(type(pairs), list)
        pairs.clear()
        self.assertEqual(exchange.pairs(), [(0, 0), (1, 0)])
        self.assertEqual(parts(exchange), ((1, 2), (3,), 4))

    def test_the_class_itself_has_each_method(self):
        for name in ["__eq__", "with_middles", "turned", "pairs", "square"]:
            self.assertIn(name, vars(Exchange))
        self.assertEqual(Exchange.__module__, "callsthrough.exchanges")


class SquareTest(unittest.TestCase):

    def field(self, *given):
        return caught(BadExchange, lambda: Exchange.square(*given)).field

    def test_square(self):
        for size in range(1, 5):
            for doors in range(1, 5):
                for middles in range(1, 8):
                    side = (doors,) * size
                    self.assertEqual(parts(Exchange.square(size, doors, middles)), (side, side, middles))

    def test_arguments_by_name_and_off_an_object(self):
        wanted = ((3, 3), (3, 3), 5)
        self.assertEqual(parts(Exchange.square(middles=5, doors=3, size=2)), wanted)
        self.assertEqual(parts(Exchange((1,), (1,), 1).square(2, 3, 5)), wanted)
        self.assertIs(type(Exchange.square(2, 3, 5)), Exchange)

    def test_a_bad_argument(self):
        for value in bad_numbers(4):
            self.assertEqual(self.field(value, 2, 3), "size")
            self.assertEqual(self.field(2, value, 3), "doors")
        for value in bad_numbers(7):
            self.assertEqual(self.field(2, 2, value), "middles")

    def test_the_first_bad_argument_is_named(self):
        bad = [None, True, 0, (1,), "1", -1, 10 ** 40]
        for size in bad + [5]:
            for doors in bad + [5, 1]:
                for middles in bad + [8, 1]:
                    self.assertEqual(self.field(size, doors, middles), "size")
        for doors in bad + [5]:
            for middles in bad + [8, 1]:
                self.assertEqual(self.field(1, doors, middles), "doors")


if __name__ == "__main__":
    unittest.main()
