import copy
import unittest
from fractions import Fraction

from roundcuts.fractions import is_fraction
from roundcuts.rows import go_round, is_row, is_tight, keeps, shortened, value
from things import nested, odd_things

GREAT = 10 ** 30 - 1
SMALL_ROWS = [(a, b, c) for a in range(-3, 4) for b in range(-3, 4) for c in range(-3, 4) if (a, b) != (0, 0)]


def place_of(x, y):
    return ((Fraction(x).numerator, Fraction(x).denominator), (Fraction(y).numerator, Fraction(y).denominator))


class IsRow(unittest.TestCase):
    def test_rows(self):
        for thing in ((1, 0, 0), (0, 1, 0), (-1, 0, 5), (0, -1, -5), (3, 4, 0), (1, 2, 3), (30, -30, -1000)):
            self.assertIs(is_row(thing), True, thing)

    def test_great_numbers(self):
        for sign in (1, -1):
            for thing in ((sign * GREAT, 0, 0), (0, sign * GREAT, 0), (1, 0, sign * GREAT), (sign * GREAT,) * 3):
                self.assertIs(is_row(thing), True, thing)

    def test_no_direction_is_no_row(self):
        for c in (0, 1, -1, 7, GREAT, -GREAT):
            self.assertIs(is_row((0, 0, c)), False, c)

    def test_a_truth_in_it_is_no_row(self):
        for at in range(3):
            for truth in (True, False):
                thing = [2, 3, 4]
                thing[at] = truth
                self.assertIs(is_row(tuple(thing)), False, thing)
        self.assertIs(is_row((True, True, True)), False)

    def test_a_fraction_in_it_is_no_row(self):
        for at in range(3):
            for fraction in ((1, 2), (4, 1), (0, 1)):
                thing = [2, 3, 4]
                thing[at] = fraction
                self.assertIs(is_row(tuple(thing)), False, thing)

    def test_a_part_fewer_or_more_is_no_row(self):
        for thing in ((), (1,), (1, 2), (1, 2, 3, 4), (1, 2, 3, 4, 5, 6)):
            self.assertIs(is_row(thing), False, thing)

    def test_a_list_or_a_dict_is_no_row(self):
        for thing in ([1, 2, 3], [(1, 2, 3)], {1: 1, 2: 2, 3: 3}, {(1, 2, 3): 0}, "123", "1 2 3"):
            self.assertIs(is_row(thing), False, thing)

    def test_a_number_is_no_row(self):
        for thing in (0, 1, -1, 123, GREAT, -GREAT):
            self.assertIs(is_row(thing), False, thing)

    def test_nothing_else_is_a_row(self):
        for thing in odd_things():
            self.assertIs(is_row(thing), False, thing)

    def test_what_is_looked_at_stays_as_it_is(self):
        for thing in odd_things() + [(1, 2, 3), ([1], {"a": [2]}, nested([3], 18))]:
            before = copy.deepcopy(thing)
            told = is_row(thing)
            self.assertEqual(thing, before)
            self.assertIs(is_row(thing), told)

    def test_nothing_hangs_on_what_is_done_later(self):
        thing = [1, 2, 3]
        self.assertIs(is_row((1, 2, thing)), False)
        thing.clear()
        self.assertIs(is_row((1, 2, thing)), False)
        self.assertIs(is_row((1, 2, 3)), True)


class Value(unittest.TestCase):
    def told(self, row, x, y):
        told = value(row, place_of(x, y))
        wanted = row[0] * Fraction(x) + row[1] * Fraction(y)
        self.assertIs(is_fraction(told), True, told)
        self.assertEqual(told, (wanted.numerator, wanted.denominator), (row, x, y))

    def test_at_a_whole_place(self):
        self.assertEqual(value((2, 3, 0), ((5, 1), (-1, 1))), (7, 1))
        self.assertEqual(value((-2, 3, 100), ((5, 1), (-1, 1))), (-13, 1))

    def test_at_a_broken_place(self):
        self.assertEqual(value((1, 1, 0), ((1, 2), (1, 3))), (5, 6))
        self.assertEqual(value((1, 1, 0), ((-1, 2), (-1, 3))), (-5, 6))

    def test_lowest_terms(self):
        self.assertEqual(value((1, 1, 0), ((1, 2), (1, 2))), (1, 1))
        self.assertEqual(value((4, 0, 0), ((1, 6), (1, 7))), (2, 3))
        self.assertEqual(value((3, 5, 0), ((1, 6), (1, 10))), (1, 1))

    def test_0_is_0_by_1(self):
        self.assertEqual(value((1, -1, 0), ((5, 7), (5, 7))), (0, 1))
        self.assertEqual(value((0, 5, 3), ((5, 7), (0, 1))), (0, 1))
        self.assertEqual(value((2, 3, 3), ((-1, 2), (1, 3))), (0, 1))

    def test_c_does_not_count(self):
        for c in (-GREAT, -1, 0, 1, GREAT):
            self.assertEqual(value((1, 2, c), ((1, 4), (1, 8))), (1, 2))

    def test_many_rows_and_places(self):
        some = [Fraction(top, bottom) for top in range(-3, 4) for bottom in (1, 2, 3, 6)]
        for row in SMALL_ROWS:
            if row[2] == 1:
                for x in some:
                    for y in some:
                        self.told(row, x, y)

    def test_great_numbers(self):
        for x in (Fraction(GREAT, GREAT - 1), Fraction(-GREAT, 10 ** 29 + 7), Fraction(GREAT)):
            for y in (Fraction(1, GREAT), Fraction(7 - GREAT, GREAT), Fraction(0)):
                for row in ((GREAT, -GREAT, 1), (1, GREAT, 0), (-GREAT, 1, 5), (0, 1 - GREAT, 5)):
                    self.told(row, x, y)

    def test_the_same_question_has_the_same_answer(self):
        row, place = (2, -3, 4), ((1, 2), (2, 3))
        self.assertEqual(value(row, place), value(row, place))
        self.assertEqual((row, place), ((2, -3, 4), ((1, 2), (2, 3))))

    def test_names_of_the_arguments(self):
        self.assertEqual(value(row=(1, 2, 3), place=((1, 1), (1, 1))), (3, 1))
        self.assertIs(keeps(row=(1, 2, 3), place=((1, 1), (1, 1))), True)
        self.assertIs(is_tight(row=(1, 2, 3), place=((1, 1), (1, 1))), True)
        self.assertEqual(shortened(row=(2, 4, 3)), (1, 2, 1))
        self.assertIs(is_row(thing=(1, 2, 3)), True)
        self.assertIs(go_round(rows=()), False)


class KeepsAndTight(unittest.TestCase):
    def told(self, row, place, kept, tight):
        self.assertIs(keeps(row, place), kept, (row, place))
        self.assertIs(is_tight(row, place), tight, (row, place))

    def test_at_below_and_above_c(self):
        self.told((2, 3, 5), ((1, 1), (1, 1)), True, True)
        self.told((2, 3, 6), ((1, 1), (1, 1)), True, False)
        self.told((2, 3, 4), ((1, 1), (1, 1)), False, False)

    def test_c_below_0(self):
        self.told((2, 3, -5), ((-1, 1), (-1, 1)), True, True)
        self.told((2, 3, -4), ((-1, 1), (-1, 1)), True, False)
        self.told((2, 3, -6), ((-1, 1), (-1, 1)), False, False)

    def test_c_is_0(self):
        self.told((1, -1, 0), ((3, 7), (3, 7)), True, True)
        self.told((1, -1, 0), ((2, 7), (3, 7)), True, False)
        self.told((1, -1, 0), ((4, 7), (3, 7)), False, False)

    def test_just_below_and_just_above(self):
        for c in (-3, 0, 4, GREAT, -GREAT):
            least = Fraction(1, GREAT)
            self.told((1, 0, c), place_of(c, 0), True, True)
            self.told((1, 0, c), place_of(c - least, 0), True, False)
            self.told((1, 0, c), place_of(c + least, 0), False, False)
            self.told((0, -1, c), place_of(0, -c), True, True)
            self.told((0, -1, c), place_of(0, -c + least), True, False)
            self.told((0, -1, c), place_of(0, -c - least), False, False)

    def test_a_broken_value_is_not_rounded(self):
        self.told((1, 1, 2), ((7, 4), (1, 2)), False, False)
        self.told((1, 1, 3), ((7, 4), (1, 2)), True, False)
        self.told((1, 1, -3), ((-7, 4), (-1, 2)), False, False)
        self.told((1, 1, -2), ((-7, 4), (-1, 2)), True, False)

    def test_many_rows_and_places(self):
        for row in SMALL_ROWS:
            for x in (Fraction(-3, 2), Fraction(0), Fraction(2, 3), Fraction(1)):
                for y in (Fraction(-1), Fraction(1, 3), Fraction(1, 2), Fraction(2)):
                    total = row[0] * x + row[1] * y
                    self.told(row, place_of(x, y), total <= row[2], total == row[2])


class Shortened(unittest.TestCase):
    def test_a_common_divisor(self):
        self.assertEqual(shortened((4, 6, 10)), (2, 3, 5))
        self.assertEqual(shortened((6, 9, 12)), (2, 3, 4))

    def test_no_common_divisor(self):
        for row in ((2, 3, 7), (1, 0, -4), (0, -1, 9), (-5, 7, 35), (1, 1, 0)):
            self.assertEqual(shortened(row), row)

    def test_c_does_not_count_for_the_divisor(self):
        self.assertEqual(shortened((4, 6, 7)), (2, 3, 3))
        self.assertEqual(shortened((2, 3, 6)), (2, 3, 6))
        self.assertEqual(shortened((4, 8, 2)), (1, 2, 0))

    def test_a_or_b_is_0(self):
        self.assertEqual(shortened((6, 0, 13)), (1, 0, 2))
        self.assertEqual(shortened((0, 6, 13)), (0, 1, 2))
        self.assertEqual(shortened((-6, 0, 13)), (-1, 0, 2))
        self.assertEqual(shortened((0, -6, 12)), (0, -1, 2))

    def test_signs_stay(self):
        self.assertEqual(shortened((-4, 6, 3)), (-2, 3, 1))
        self.assertEqual(shortened((4, -6, 3)), (2, -3, 1))
        self.assertEqual(shortened((-4, -6, 3)), (-2, -3, 1))

    def test_c_below_0_goes_down(self):
        self.assertEqual(shortened((2, 0, -1)), (1, 0, -1))
        self.assertEqual(shortened((4, 6, -7)), (2, 3, -4))
        self.assertEqual(shortened((-4, -6, -7)), (-2, -3, -4))
        self.assertEqual(shortened((4, 6, -8)), (2, 3, -4))
        self.assertEqual(shortened((0, -3, -10)), (0, -1, -4))

    def test_great_numbers(self):
        self.assertEqual(shortened((2 * GREAT, -4 * GREAT, -1)), (1, -2, -1))
        self.assertEqual(shortened((GREAT, GREAT, GREAT - 1)), (1, 1, 0))

    def test_whole_places_keep_both_or_none(self):
        for a in range(-6, 7):
            for b in range(-6, 7):
                for c in range(-7, 8):
                    if (a, b) != (0, 0):
                        self.same_whole_places((a, b, c))

    def same_whole_places(self, row):
        short = shortened(row)
        self.assertIs(is_row(short), True)
        for x in range(-3, 4):
            for y in range(-3, 4):
                place = ((x, 1), (y, 1))
                self.assertEqual(keeps(row, place), keeps(short, place), (row, place))

    def test_twice_shortened_is_once_shortened(self):
        for row in ((4, 6, -7), (-12, 0, 5), (30, -18, 1000)):
            self.assertEqual(shortened(shortened(row)), shortened(row))


class AskedAgain(unittest.TestCase):
    """Each question has its answer, whatever was asked in between, and leaves what it was handed."""

    def answers(self, row, place):
        return [value(row, place), keeps(row, place), is_tight(row, place), shortened(row), go_round((row,))]

    def test_the_answers_stay(self):
        places = [((1, 2), (2, 3)), ((0, 1), (-5, 1)), ((7, 3), (7, 3))]
        asked = [(row, place) for row in SMALL_ROWS for place in places]
        before = copy.deepcopy(asked)
        forth = [self.answers(row, place) for row, place in asked]
        back = [self.answers(row, place) for row, place in reversed(asked)]
        self.assertEqual(forth, back[::-1])
        self.assertEqual(asked, before)


if __name__ == "__main__":
    unittest.main()
