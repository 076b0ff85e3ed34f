import copy
import math
import unittest
from fractions import Fraction

from no_fields import refuses_what_is_no_field
from plain import (
    BOX, BROKEN_STRETCH, CROWDED, DOUBLED, EIGHT, FIELDS, HALF_BOX, LONG_SPIKE, NO_PLACE, NO_PLACE_OF_THREE,
    ONE_BROKEN_PLACE, ONE_PLACE, PINNED, SPIKE, TRIANGLE, TWICE, fraction_of, plain_sum, points_kept, some_fields,
    two_row_cuts, whole_points,
)
from things import nested, odd_things

from roundcuts.errors import CutError, NoCut, NoWeights, Nothing
from roundcuts.fractions import is_fraction
from roundcuts.rows import is_row, shortened
from roundcuts.sums import cut_by, cut_towards, is_paper, sum_by

GREAT = 10 ** 30 - 1
NONE = (0, 1)
ONE = (1, 1)
HALF = (1, 2)


def refused(test, refusal, ask):
    with test.assertRaises(CutError) as caught:
        ask()
    test.assertIs(caught.exception.__class__, refusal)


def no_weights():
    """Of a field of three rows."""
    good = (HALF, NONE, (7, 3))
    wrong = [
        (), good[:1], good[:2], good + (NONE,), good + good, list(good), dict(enumerate(good)), str(good), set(good),
        tuple(list(weight) for weight in good), (good,), [good], {good: good}, nested(good, 17),
    ]
    for weight in (
            (-1, 2), (-1, 1), (-GREAT, 1), (2, 4), (0, 2), (0, 5), (3, 3), (1, 0), (0, 0), (1, -1), (1, -2), (-1, -2),
            (0, -1), 0, 1, 2, -1, True, False, (True, 2), (1, True), (False, 1), (True, True), None, "1/2", "1", [1, 2],
            (1,), (), (1, 2, 3), ((1, 2), (1, 1)), ((1, 1), 2), {1: 2}, {}, nested(HALF, 17), (None, 1), ("1", "2")):
        wrong += [(weight,) + good[1:], good[:1] + (weight,) + good[2:], good[:2] + (weight,), (weight,) * 3]
    # One of the odd things is three fractions, and so the weights of a field of three rows.
    return wrong + [thing for thing in odd_things() if thing != ((1, 1), (2, 1), (3, 1))] + [0, 1, GREAT, HALF, TRIANGLE]


class SumBy(unittest.TestCase):
    def test_whole_weights(self):
        self.assertEqual(sum_by(TRIANGLE, (ONE, ONE, ONE)), ((0, 1), (0, 1), (5, 1)))
        self.assertEqual(sum_by(TRIANGLE, (NONE, (2, 1), (3, 1))), ((3, 1), (1, 1), (15, 1)))
        self.assertEqual(sum_by(SPIKE, (ONE, (2, 1), NONE)), ((3, 1), (3, 1), (12, 1)))

    def test_broken_weights(self):
        self.assertEqual(sum_by(TRIANGLE, (HALF, NONE, HALF)), ((0, 1), (1, 2), (5, 2)))
        self.assertEqual(sum_by(SPIKE, ((1, 3), (1, 6), (5, 2))), ((-1, 2), (-9, 2), (-3, 2)))

    def test_all_0(self):
        for field in FIELDS.values():
            self.assertEqual(sum_by(field, (NONE,) * len(field)), (NONE, NONE, NONE))

    def test_of_rows_that_are_twice_there(self):
        self.assertEqual(sum_by(TWICE, (NONE, NONE, HALF, NONE, NONE, HALF)), ((1, 1), (1, 1), (5, 1)))

    def test_great_weights(self):
        weights = ((GREAT, GREAT - 1), (1, GREAT), (GREAT, 1))
        self.assertEqual(sum_by(SPIKE, weights), tuple(fraction_of(total) for total in plain_sum(SPIKE, weights)))

    def test_by_the_words(self):
        some = (NONE, HALF, (5, 3), (2, 1), (7, 30))
        for at, field in enumerate(list(FIELDS.values()) + some_fields(60, 9, 5)):
            weights = tuple(some[(at + 2 * number + number * number) % 5] for number in range(len(field)))
            told = sum_by(field, weights)
            self.assertEqual(told, tuple(fraction_of(total) for total in plain_sum(field, weights)))
            self.assertEqual([told.__class__] + [is_fraction(total) for total in told], [tuple, True, True, True])

    def test_no_weights(self):
        for thing in no_weights():
            before = copy.deepcopy(thing)
            refused(self, NoWeights, lambda: sum_by(TRIANGLE, thing))
            self.assertEqual(thing, before)
        refused(self, NoWeights, lambda: sum_by(BOX, (NONE,) * 3))
        refused(self, NoWeights, lambda: sum_by(BOX, (NONE,) * 5))

    def test_no_weights_where_nothing_is_left(self):
        for thing in no_weights():
            refused(self, NoWeights, lambda: sum_by(NO_PLACE_OF_THREE, thing))

    def test_no_field(self):
        for thing in ((NONE, NONE, NONE), (ONE,) * 4, None, [], (-1, 0), {}):
            refuses_what_is_no_field(self, lambda field: sum_by(field, thing))


class CutBy(unittest.TestCase):
    def test_whole_weights(self):
        self.assertEqual(cut_by(TRIANGLE, (NONE, (2, 1), (3, 1))), (3, 1, 15))
        self.assertEqual(cut_by(BOX, (ONE, NONE, ONE, NONE)), (1, 1, 7))

    def test_each_row_and_each_row_shortened_is_a_cut(self):
        for field in list(FIELDS.values()) + some_fields(60, 9, 6):
            for number, row in enumerate(field):
                for weight, wanted in ((ONE, row), ((1, math.gcd(row[0], row[1])), shortened(row))):
                    weights = (NONE,) * number + (weight,) + (NONE,) * (len(field) - number - 1)
                    self.assertEqual(cut_by(field, weights), wanted)

    def test_two_rows_by_parts_of_their_turn(self):
        self.assertEqual(cut_by(SPIKE, ((1, 2), (1, 2), NONE)), (0, 1, 3))
        self.assertEqual(cut_by(SPIKE, ((1, 6), (5, 6), NONE)), (2, 1, 5))
        self.assertEqual(cut_by(SPIKE, ((1, 3), NONE, (1, 6))), (-1, 0, -1))
        self.assertEqual(cut_by(SPIKE, (NONE, (1, 3), (2, 3))), (1, -1, 1))

    def test_c_is_rounded_down(self):
        self.assertEqual(cut_by(HALF_BOX, (HALF, NONE, NONE, NONE)), (1, 0, 1))
        self.assertEqual(cut_by(HALF_BOX, (HALF, NONE, HALF, NONE)), (1, 1, 4))
        self.assertEqual(cut_by(HALF_BOX, (NONE, HALF, NONE, NONE)), (-1, 0, 0))

    def test_c_below_0_is_rounded_down(self):
        self.assertEqual(cut_by(ONE_BROKEN_PLACE, (NONE, HALF, NONE, NONE)), (-1, 0, -1))
        self.assertEqual(cut_by(ONE_BROKEN_PLACE, (NONE, HALF, NONE, (1, 3))), (-1, -1, -2))
        self.assertEqual(cut_by(((1, 0, 1), (-1, 0, 2), (0, 3, -4), (0, -1, 5)), (NONE, NONE, (1, 3), NONE)), (0, 1, -2))
        self.assertEqual(cut_by(((1, 0, 1), (-1, 0, 2), (0, 3, -3), (0, -1, 5)), (NONE, NONE, (1, 3), NONE)), (0, 1, -1))

    def test_a_or_b_not_whole(self):
        refused(self, NoCut, lambda: cut_by(TRIANGLE, (HALF, NONE, NONE)))
        refused(self, NoCut, lambda: cut_by(TRIANGLE, (NONE, HALF, NONE)))
        refused(self, NoCut, lambda: cut_by(TRIANGLE, (NONE, NONE, HALF)))
        refused(self, NoCut, lambda: cut_by(TRIANGLE, (NONE, HALF, HALF)))
        refused(self, NoCut, lambda: cut_by(TRIANGLE, (HALF, NONE, HALF)))
        self.assertEqual(cut_by(TRIANGLE, (HALF, (3, 2), HALF)), (0, -1, 2))

    def test_a_and_b_both_0(self):
        for field in FIELDS.values():
            refused(self, NoCut, lambda: cut_by(field, (NONE,) * len(field)))
        refused(self, NoCut, lambda: cut_by(TRIANGLE, (ONE, ONE, ONE)))
        refused(self, NoCut, lambda: cut_by(TRIANGLE, (HALF, HALF, HALF)))
        refused(self, NoCut, lambda: cut_by(BOX, (ONE, ONE, NONE, NONE)))
        refused(self, NoCut, lambda: cut_by(NO_PLACE, (ONE, ONE, NONE, NONE)))

    def test_one_of_a_and_b_is_0(self):
        self.assertEqual(cut_by(BOX, (ONE, NONE, ONE, ONE)), (1, 0, 7))
        self.assertEqual(cut_by(BOX, (ONE, ONE, NONE, ONE)), (0, -1, 4))

    def test_no_weights(self):
        for thing in no_weights():
            refused(self, NoWeights, lambda: cut_by(TRIANGLE, thing))
            refused(self, NoWeights, lambda: cut_by(NO_PLACE_OF_THREE, thing))

    def test_no_field(self):
        for thing in ((NONE, NONE, NONE), (ONE,) * 4, None, [], (-1, 0), {}):
            refuses_what_is_no_field(self, lambda field: cut_by(field, thing))

    def test_without_whole_parts(self):
        """The cut is as it was, less the rows so many times."""
        below, above = ((1, 6), (5, 6), NONE), ((13, 6), (11, 6), (4, 1))
        less = [big - small for big, small in zip(cut_by(SPIKE, above), cut_by(SPIKE, below))]
        self.assertEqual(less, [2 * SPIKE[0][at] + SPIKE[1][at] + 4 * SPIKE[2][at] for at in range(3)])

    def test_no_whole_place_is_lost(self):
        for field in list(FIELDS.values()) + some_fields(25, 4, 9):
            points = whole_points(field)
            for (a, b), c in two_row_cuts(field).items():
                self.assertFalse([(x, y) for x, y in points if a * x + b * y > c], (field, a, b, c))


PAPER = ((NONE, (1, 3), (2, 3)), (1, -1, 1))


def changed_papers():
    """Of the spike, what is hardly not a paper of it."""
    weights, (a, b, c) = PAPER
    changed = [(weights, (a, b, c + 1)), (weights, (a, b, c - 1)), (weights, (-a, -b, c)), (weights, (-a, -b, -c)),
               (weights, (2 * a, 2 * b, 2 * c)), (weights, (b, a, c)), (weights, (a, b)), (weights, (a, b, c, 0)),
               (weights, [a, b, c]), (list(weights), (a, b, c)), [weights, (a, b, c)], (weights,), ((a, b, c),),
               (weights, (a, b, c), None), (weights, (a, b, c), ()), ((a, b, c), weights), (weights, weights), weights,
               (a, b, c), (weights, ((a, 1), (b, 1), (c, 1))), (weights, None), (None, (a, b, c)), {weights: (a, b, c)},
               ((weights, (a, b, c)),), str(PAPER), (weights, (0, 0, c)), (weights[:2], (a, b, c)),
               (weights + (NONE,), (a, b, c)), (weights, (True, b, c)), (weights, (a, b, True)), (True, (a, b, c)),
               (weights, True), (tuple(list(weight) for weight in weights), (a, b, c)), nested(PAPER, 15)]
    for at in range(3):
        for weight in (ONE, (1, 2), (2, 6), (4, 6), (-1, 3), 0, 1, True, False, (True, 3), (1, True), (False, 1), [1, 3],
                       None, "1/3", (1, 0), (1, 3, 1)):
            if weight != weights[at] or weight is False:
                changed.append((weights[:at] + (weight,) + weights[at + 1:], (a, b, c)))
    return changed


class IsPaper(unittest.TestCase):
    def test_papers(self):
        self.assertIs(is_paper(SPIKE, PAPER), True)
        self.assertIs(is_paper(TRIANGLE, ((NONE, NONE, ONE), (1, 1, 5))), True)
        self.assertIs(is_paper(SPIKE, (((1, 6), (5, 6), NONE), (2, 1, 5))), True)
        self.assertIs(is_paper(BOX, ((ONE, NONE, ONE, ONE), (1, 0, 7))), True)
        self.assertIs(is_paper(ONE_BROKEN_PLACE, ((NONE, HALF, NONE, (1, 3)), (-1, -1, -2))), True)
        self.assertIs(is_paper(NO_PLACE, ((ONE, (3, 1), NONE, NONE), (-2, 0, -4))), True)

    def test_great_papers(self):
        weights = ((GREAT, 1), (GREAT, 3), (1, GREAT))
        self.assertIs(is_paper(SPIKE, (((GREAT, 1), NONE, NONE), (-3 * GREAT, GREAT, 0))), True)
        self.assertIs(is_paper(SPIKE, (weights, (1, 1, GREAT))), False)

    def test_hardly_no_paper(self):
        for thing in changed_papers():
            before = copy.deepcopy(thing)
            self.assertIs(is_paper(SPIKE, thing), False, thing)
            self.assertEqual(thing, before)

    def test_truths_that_are_like_numbers(self):
        field = ((1, 0, 1), (-1, 0, 0), (0, 1, 1), (0, -1, 0))
        weights, row = (ONE, NONE, NONE, NONE), (1, 0, 1)
        self.assertIs(is_paper(field, (weights, row)), True)
        for at, truth in enumerate((True, False, True)):
            self.assertIs(is_paper(field, (weights, row[:at] + (truth,) + row[at + 1:])), False)
        for weight in ((True, 1), (1, True), True):
            self.assertIs(is_paper(field, ((weight,) + weights[1:], row)), False)
        for weight in ((False, 1), (0, True), False):
            self.assertIs(is_paper(field, (weights[:3] + (weight,), row)), False)

    def test_sums_that_make_no_cut(self):
        self.assertIs(is_paper(TRIANGLE, ((ONE, ONE, ONE), (0, 0, 5))), False)
        self.assertIs(is_paper(TRIANGLE, ((NONE, NONE, HALF), (0, 0, 2))), False)
        self.assertIs(is_paper(TRIANGLE, ((NONE, NONE, HALF), (1, 1, 2))), False)

    def test_papers_of_another_field(self):
        for name, field in FIELDS.items():
            self.assertIs(is_paper(field, PAPER), name == "spike", name)

    def test_other_things(self):
        for field in FIELDS.values():
            for thing in odd_things() + [0, 1, GREAT, field, (field, field[0]), (None, None), ((), ())]:
                self.assertIs(is_paper(field, thing), False, thing)

    def test_no_weights_with_a_row(self):
        for thing in no_weights():
            self.assertIs(is_paper(TRIANGLE, (thing, (1, 1, 5))), False, thing)
            self.assertIs(is_paper(TRIANGLE, ((NONE, NONE, ONE), thing)), False, thing)

    def test_no_field(self):
        for thing in (PAPER, None, [], (), ({}, [])):
            refuses_what_is_no_field(self, lambda field: is_paper(field, thing))


class CutTowards(unittest.TestCase):
    def told(self, field, a, b):
        paper = cut_towards(field, a, b)
        weights, row = paper
        self.assertIs(is_paper(field, paper), True, (field, paper))
        best = max(a * x + b * y for x, y in points_kept(field))
        self.assertEqual(row, (a, b, best.__floor__()), field)
        self.assertIs(is_row(row), True)
        self.assertLessEqual(len([weight for weight in weights if weight != NONE]), 2)
        self.assertEqual(plain_sum(field, weights), (a, b, best))
        return paper

    def leaving(self):
        """The fields that leave something."""
        fields = list(FIELDS.values()) + some_fields(40, 5, 12) + some_fields(40, 30, 13)
        return [field for field in fields if points_kept(field)]

    def test_in_each_quarter(self):
        for field in self.leaving():
            for a, b in ((2, 3), (-3, 2), (-2, -5), (7, -1), (1, 1), (-1, 1), (-1, -1), (1, -1)):
                self.told(field, a, b)

    def test_along_axes(self):
        for field in self.leaving():
            for a, b in ((1, 0), (0, 1), (-1, 0), (0, -1), (5, 0), (0, -7)):
                self.told(field, a, b)

    def test_along_rows_and_between_them(self):
        for field in self.leaving():
            for (a, b, c), (d, e, f) in zip(field, field[1:] + field[:1]):
                for x, y in ((a, b), (3 * a, 3 * b), (-a, -b), (a + d, b + e), (a - 2 * d, b - 2 * e)):
                    if (x, y) != (0, 0):
                        self.told(field, x, y)

    def test_up_to_1000(self):
        for field in self.leaving():
            for a, b in ((1000, 1000), (-1000, 1000), (1000, -1000), (-1000, -1000), (1000, 0), (0, -1000), (1000, 999),
                         (-999, 1000), (1, 1000), (-1000, 1)):
                self.told(field, a, b)

    def test_all_around(self):
        for field in (SPIKE, LONG_SPIKE, EIGHT, CROWDED, DOUBLED, PINNED, ONE_PLACE, BROKEN_STRETCH):
            for a in range(-6, 7):
                for b in range(-6, 7):
                    if (a, b) != (0, 0):
                        self.told(field, a, b)

    def test_somewhat_beyond(self):
        self.told(SPIKE, 1001, -12345)
        self.told(SPIKE, GREAT, GREAT)

    def test_known_ones(self):
        self.assertEqual(cut_towards(BOX, 2, 3), (((2, 1), NONE, (3, 1), NONE), (2, 3, 17)))
        self.assertEqual(cut_towards(SPIKE, 1, -1), (((0, 1), (1, 3), (2, 3)), (1, -1, 1)))
        self.assertEqual(cut_towards(ONE_BROKEN_PLACE, -1, -1)[1], (-1, -1, -2))

    def test_no_cut_of_two_rows_has_a_lesser_c(self):
        for field in [SPIKE, HALF_BOX, CROWDED] + some_fields(15, 4, 14):
            if points_kept(field):
                for (a, b), c in two_row_cuts(field).items():
                    self.assertLessEqual(cut_towards(field, a, b)[1][2], c)

    def test_nothing_is_left(self):
        for field in (NO_PLACE, NO_PLACE_OF_THREE, BOX + ((1, 0, -1),)):
            for a, b in ((1, 0), (-3, 2), (1000, -1000)):
                refused(self, Nothing, lambda: cut_towards(field, a, b))

    def test_no_field(self):
        for a, b in ((1, 0), (0, 0), (None, None), ("1", [])):
            refuses_what_is_no_field(self, lambda field: cut_towards(field, a, b))


class AskedAgain(unittest.TestCase):
    def test_names_of_the_arguments(self):
        weights = (NONE, NONE, ONE)
        self.assertEqual(sum_by(field=TRIANGLE, weights=weights), ((1, 1), (1, 1), (5, 1)))
        self.assertEqual(cut_by(field=TRIANGLE, weights=weights), (1, 1, 5))
        self.assertIs(is_paper(field=TRIANGLE, thing=(weights, (1, 1, 5))), True)
        self.assertEqual(cut_towards(field=TRIANGLE, a=1, b=1)[1], (1, 1, 5))

    def answers(self, field):
        ones = (ONE,) * (len(field) - 1) + ((1, 2),)
        told = [sum_by(field, ones), is_paper(field, (ones, (1, 1, 1)))]
        return told + ([cut_towards(field, 1, 2)] if points_kept(field) else [])

    def test_the_answers_stay(self):
        fields = list(FIELDS.values()) + some_fields(30, 6, 15)
        forth = [self.answers(field) for field in fields]
        back = [self.answers(field) for field in reversed(fields)]
        self.assertEqual(forth, back[::-1])
        self.assertEqual(fields, list(FIELDS.values()) + some_fields(30, 6, 15))


if __name__ == "__main__":
    unittest.main()
