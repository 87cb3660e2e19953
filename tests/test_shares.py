import unittest
from fractions import Fraction

from braemantle.errors import NoShare
from braemantle.shares import less, minus, plus, share, times
from plans import GREAT, VAST, plain, signature

PRIME = 170141183460469231731687303715884105727
SMALL = list(range(-13, 14))
# Some with many factors in common, some with none.
LARGE = [GREAT, GREAT + 1, 3 * GREAT, 6 ** 35, 2 ** 90, 3 ** 57, 123456789012345678901234567, PRIME]
NUMBERS = SMALL + LARGE + [-number for number in LARGE]


def pair(fraction):
    return (fraction.numerator, fraction.denominator)


def some_shares():
    unders = [number for number in (1, 2, 3, 4, 6, 7, 12) + tuple(LARGE)]
    overs = [0, 1, 2, 3, 5, 6, 13, GREAT, 2 ** 90, PRIME]
    fractions = {Fraction(sign * over, under) for over in overs for under in unders for sign in (1, -1)}
    return [pair(fraction) for fraction in sorted(fractions)]


class ShareTest(unittest.TestCase):
    def check_form(self, told):
        self.assertIs(type(told), tuple)
        self.assertEqual([type(number) for number in told], [int, int])

    def test_document(self):
        self.assertEqual(share(6, -4), (-3, 2))
        self.assertEqual(share(0, 1), (0, 1))

    def test_numbers_of_any_sign_and_size(self):
        for over in NUMBERS:
            for under in NUMBERS:
                if under != 0:
                    told = share(over, under)
                    self.check_form(told)
                    self.assertEqual(told, pair(Fraction(over, under)), (over, under))

    def test_nought_is_over_one(self):
        for under in NUMBERS:
            if under != 0:
                self.assertEqual(share(0, under), (0, 1))

    def test_vast_numbers(self):
        self.assertTrue(share(VAST * 3, VAST * -2) == (-3, 2))
        self.assertTrue(share(VAST + 1, VAST) == (VAST + 1, VAST))

    def test_no_share_for_nought(self):
        for over in NUMBERS + [VAST]:
            with self.assertRaises(NoShare) as caught:
                share(over, 0)
            self.assertIsInstance(caught.exception, ZeroDivisionError)
            self.assertNotIsInstance(caught.exception, (ValueError, LookupError))

    def test_by_name(self):
        self.assertEqual(share(under=-4, over=6), (-3, 2))
        self.assertEqual(signature(share), plain("over", "under"))
        for function in (plus, minus, times, less):
            self.assertEqual(signature(function), plain("one", "other"))
        half, third = (1, 2), (1, 3)
        self.assertEqual(plus(other=third, one=half), (5, 6))
        self.assertEqual(minus(other=third, one=half), (1, 6))
        self.assertEqual(times(other=third, one=half), (1, 6))
        self.assertIs(less(other=third, one=half), False)


class ReckoningTest(unittest.TestCase):
    def check(self, one, other):
        first, second = Fraction(*one), Fraction(*other)
        for told, asked in (
            (plus(one, other), first + second),
            (minus(one, other), first - second),
            (times(one, other), first * second),
        ):
            self.assertIs(type(told), tuple)
            self.assertEqual(told, pair(asked), (one, other))
        self.assertIs(less(one, other), first < second)

    def test_all_pairs_of_some_shares(self):
        shares = some_shares()
        for one in shares:
            for other in shares:
                self.check(one, other)

    def test_a_share_and_itself(self):
        for one in some_shares():
            self.assertEqual(minus(one, one), (0, 1))
            self.assertEqual(plus(one, (-one[0], one[1])), (0, 1))
            self.assertIs(less(one, one), False)

    def test_a_share_and_the_one_turned_about(self):
        for one in some_shares():
            if one[0] != 0:
                about = pair(1 / Fraction(*one))
                self.assertEqual(times(one, about), (1, 1))
                self.check(one, about)

    def test_told_examples(self):
        self.assertEqual(plus((1, 2), (1, 2)), (1, 1))
        self.assertEqual(minus((1, 3), (1, 2)), (-1, 6))
        self.assertEqual(times((-2, 3), (3, 2)), (-1, 1))
        self.assertIs(less((-1, 2), (-1, 3)), True)
        self.assertIs(less((-1, 3), (-1, 2)), False)


if __name__ == "__main__":
    unittest.main()
