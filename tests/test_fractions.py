import math
import unittest
from fractions import Fraction

from roundcuts.fractions import are_whole, greatest_divisor, is_fraction, is_less, is_whole, lowest, plus, times
from things import odd_things

GREAT = 10 ** 30 - 1


class WholeNumbers(unittest.TestCase):
    def test_ints_are_whole(self):
        for number in (0, 1, -1, 7, GREAT, -GREAT, GREAT ** 9):
            self.assertIs(is_whole(number), True, number)

    def test_truths_are_not_whole(self):
        self.assertIs(is_whole(True), False)
        self.assertIs(is_whole(False), False)

    def test_nothing_else_is_whole(self):
        for thing in odd_things():
            self.assertIs(is_whole(thing), False, thing)

    def test_all_of_some_are_whole(self):
        self.assertIs(are_whole((1, -2, GREAT)), True)
        self.assertIs(are_whole(()), True)
        for wrong in (True, False, None, "1", (1, 1), [1], {}):
            self.assertIs(are_whole((1, wrong)), False, wrong)
            self.assertIs(are_whole((wrong, 1)), False, wrong)


class Fractions(unittest.TestCase):
    def test_fractions(self):
        for thing in ((0, 1), (1, 1), (-1, 1), (1, 2), (-7, 3), (GREAT, 1), (1, GREAT), (-GREAT, GREAT + 1)):
            self.assertIs(is_fraction(thing), True, thing)

    def test_a_bottom_below_1_is_none(self):
        for thing in ((1, 0), (0, 0), (1, -1), (1, -2), (-1, -2), (0, -1)):
            self.assertIs(is_fraction(thing), False, thing)

    def test_a_common_divisor_is_none(self):
        for thing in ((2, 2), (2, 4), (-2, 4), (0, 2), (6, 3), (-9, 6), (GREAT, GREAT), (2 * GREAT, 3 * GREAT)):
            self.assertIs(is_fraction(thing), False, thing)

    def test_a_truth_in_it_is_none(self):
        for thing in ((True, 1), (False, 1), (1, True), (True, True), (1, False)):
            self.assertIs(is_fraction(thing), False, thing)

    def test_nothing_else_is_one(self):
        for thing in odd_things() + [0, 1, [1, 2], (1,), (1, 2, 3), ("1", "2"), ((1, 1), (2, 1)), {1: 2, 3: 4}]:
            self.assertIs(is_fraction(thing), False, thing)


class Reckoning(unittest.TestCase):
    def test_greatest_divisor(self):
        for one in range(-20, 21):
            for other in range(-20, 21):
                self.assertEqual(greatest_divisor(one, other), math.gcd(one, other), (one, other))

    def test_greatest_divisor_of_great_numbers(self):
        self.assertEqual(greatest_divisor(6 * GREAT, -4 * GREAT), 2 * GREAT)

    def told(self, fraction, wanted):
        self.assertIs(is_fraction(fraction), True, fraction)
        self.assertEqual(fraction, (wanted.numerator, wanted.denominator))

    def test_lowest(self):
        for top in list(range(-30, 31)) + [GREAT, -GREAT]:
            for bottom in list(range(1, 13)) + [GREAT, 3 * GREAT]:
                self.told(lowest(top, bottom), Fraction(top, bottom))

    def test_plus_and_times(self):
        some = [Fraction(top, bottom) for top in range(-6, 7) for bottom in range(1, 7)] + [Fraction(-GREAT, 10 ** 29)]
        for one in some:
            for whole in (-GREAT, -4, -1, 0, 1, 6):
                self.told(times(whole, (one.numerator, one.denominator)), whole * one)
            for other in some:
                total = plus((one.numerator, one.denominator), (other.numerator, other.denominator))
                self.told(total, one + other)
                less = is_less((one.numerator, one.denominator), (other.numerator, other.denominator))
                self.assertIs(less, one < other, (one, other))


if __name__ == "__main__":
    unittest.main()
