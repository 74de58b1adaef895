import unittest
from fractions import Fraction

from callsthrough.errors import BadShare
from callsthrough.exchanges import Exchange
from callsthrough.shares import Share
from tests.helper import caught, no_integers

BIG = 10 ** 40
NUMBERS = [-BIG, -12, -3, -1, 0, 1, 2, 6, 9, BIG, BIG + 1]
BOTTOMS = [number for number in NUMBERS if number != 0]


def parts(share):
    return share.top, share.bottom


def some_shares():
    return [(Share(top, bottom), Fraction(top, bottom)) for top in NUMBERS for bottom in BOTTOMS]


class MakingTest(unittest.TestCase):

    def test_example_of_the_interface(self):
        share = Share(6, -4) + 1
        self.assertEqual((share.top, share.bottom, share.below(0)), (-1, 2, True))

    def test_lowest_terms_with_bottom_above_0(self):
        rows = [
            ((6, 4), (3, 2)), ((-6, 4), (-3, 2)), ((6, -4), (-3, 2)), ((-6, -4), (3, 2)),
            ((4, 2), (2, 1)), ((-4, -2), (2, 1)), ((1, -1), (-1, 1)), ((7, 3), (7, 3)),
            ((2 * BIG, -4 * BIG), (-1, 2)), ((BIG, BIG + 1), (BIG, BIG + 1)), ((BIG * 3, 3), (BIG, 1)),
        ]
        for given, wanted in rows:
            self.assertEqual(parts(Share(*given)), wanted)

    def test_terms_are_those_of_the_fraction(self):
        for share, fraction in some_shares():
            self.assertEqual(parts(share), (fraction.numerator, fraction.denominator))
            self.assertIs(type(share.top), int)
            self.assertIs(type(share.bottom), int)

    def test_the_share_of_0_has_bottom_1(self):
        for bottom in BOTTOMS:
            self.assertEqual(parts(Share(0, bottom)), (0, 1))

    def test_without_a_bottom(self):
        for top in NUMBERS:
            self.assertEqual(parts(Share(top)), (top, 1))

    def test_arguments_by_name(self):
        self.assertEqual(parts(Share(top=2, bottom=-6)), (-1, 3))
        self.assertEqual(parts(Share(bottom=4, top=6)), (3, 2))

    def test_a_bad_top(self):
        for value in no_integers():
            self.assertEqual(caught(BadShare, lambda: Share(value)).field, "top")
            self.assertEqual(caught(BadShare, lambda: Share(value, 3)).field, "top")

    def test_a_bad_bottom(self):
        for value in no_integers() + [0]:
            for top in (0, 1, -5, BIG):
                self.assertEqual(caught(BadShare, lambda: Share(top, value)).field, "bottom")

    def test_the_first_bad_argument_is_named(self):
        for top in no_integers():
            for bottom in no_integers() + [0]:
                self.assertEqual(caught(BadShare, lambda: Share(top, bottom)).field, "top")


class EqualityTest(unittest.TestCase):

    def assert_equal_flag(self, one, other, flag):
        self.assertIs(one == other, flag)
        self.assertIs(other == one, flag)
        self.assertIs(one != other, not flag)

    def test_equal_shares(self):
        self.assert_equal_flag(Share(1, 2), Share(-2, -4), True)
        self.assert_equal_flag(Share(0), Share(0, -7), True)
        self.assert_equal_flag(Share(BIG, 2 * BIG), Share(1, 2), True)
        share = Share(3)
        self.assert_equal_flag(share, share, True)

    def test_other_shares(self):
        for other in (Share(-1, 2), Share(1, 3), Share(3, 2), Share(2), Share(0), Share(BIG, 2)):
            self.assert_equal_flag(Share(1, 2), other, False)

    def test_equal_just_if_the_fractions_are(self):
        shares = some_shares()
        for one, one_fraction in shares:
            for other, other_fraction in shares[::7]:
                self.assertIs(one == other, one_fraction == other_fraction)

    def test_a_share_is_equal_to_nothing_else(self):
        others = [3, True, None, (3, 1), [3, 1], "3", "3/1", {}, Fraction(3), 3.0, Exchange((1,), (1,), 3), Share]
        for other in others:
            self.assert_equal_flag(Share(3), other, False)
        self.assert_equal_flag(Share(1), True, False)
        self.assert_equal_flag(Share(0), False, False)
        self.assert_equal_flag(Share(0), 0, False)


class OperatorsTest(unittest.TestCase):

    def assert_share(self, share, fraction):
        self.assertIs(type(share), Share)
        self.assertEqual(parts(share), (fraction.numerator, fraction.denominator))
        self.assertIs(type(share.top), int)
        self.assertIs(type(share.bottom), int)

    def test_two_shares(self):
        shares = some_shares()
        for one, one_fraction in shares:
            for other, other_fraction in shares[::7]:
                self.assert_share(one + other, one_fraction + other_fraction)
                self.assert_share(one - other, one_fraction - other_fraction)
                self.assert_share(other - one, other_fraction - one_fraction)
                self.assert_share(one * other, one_fraction * other_fraction)

    def test_a_share_and_an_integer(self):
        for share, fraction in some_shares():
            for number in NUMBERS:
                self.assert_share(share + number, fraction + number)
                self.assert_share(number + share, number + fraction)
                self.assert_share(share - number, fraction - number)
                self.assert_share(share * number, fraction * number)
                self.assert_share(number * share, number * fraction)

    def test_minus_and_abs(self):
        for share, fraction in some_shares():
            self.assert_share(-share, -fraction)
            self.assert_share(abs(share), abs(fraction))

    def test_written_out(self):
        self.assertEqual(parts(Share(1, 6) + Share(1, 3)), (1, 2))
        self.assertEqual(parts(Share(1, 2) - Share(1, 2)), (0, 1))
        self.assertEqual(parts(Share(2, 3) * Share(-3, 2)), (-1, 1))
        self.assertEqual(parts(5 + Share(1, 2)), (11, 2))
        self.assertEqual(parts(Share(1, 2) - 5), (-9, 2))
        self.assertEqual(parts(4 * Share(1, 2)), (2, 1))
        self.assertEqual(parts(-Share(1, 2)), (-1, 2))
        self.assertEqual(parts(abs(Share(-1, 2))), (1, 2))

    def test_below(self):
        for share, fraction in some_shares():
            for number in NUMBERS:
                self.assertIs(share.below(number), fraction < number)
            for other, other_fraction in some_shares()[::7]:
                self.assertIs(share.below(other), fraction < other_fraction)
                self.assertIs(other.below(share), other_fraction < fraction)

    def test_below_written_out(self):
        self.assertIs(Share(1, 2).below(Share(2, 3)), True)
        self.assertIs(Share(1, 2).below(Share(2, 4)), False)
        self.assertIs(Share(1, 2).below(Share(1, 3)), False)
        self.assertIs(Share(1, 2).below(1), True)
        self.assertIs(Share(2).below(2), False)
        self.assertIs(Share(-1, 2).below(-1), False)
        self.assertIs(Share(-1, 2).below(other=0), True)
        self.assertIs(Share(BIG, BIG + 1).below(1), True)
        self.assertIs(Share(BIG, BIG - 1).below(1), False)

    def test_operands_stay_as_they_were(self):
        one, other = Share(-3, 4), Share(5, 6)
        one + other, one - other, one * other, one + 2, 2 + one, one - 2, one * 2, 2 * one
        -one, abs(one), one.below(other), one.below(2), one == other
        self.assertEqual((parts(one), parts(other)), ((-3, 4), (5, 6)))

    def test_answers_are_other_objects_where_they_may_be_changed(self):
        one = Share(3, 4)
        total = one + 0
        total.top = 99
        size = abs(one)
        size.top = 99
        self.assertEqual(parts(one), (3, 4))

    def test_the_class_itself_has_each_method(self):
        names = "__eq__ __add__ __radd__ __sub__ __mul__ __rmul__ __neg__ __abs__ below"
        for name in names.split():
            self.assertIn(name, vars(Share))
        self.assertEqual(Share.__module__, "callsthrough.shares")


if __name__ == "__main__":
    unittest.main()
