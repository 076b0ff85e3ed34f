import copy
import itertools
import unittest
from fractions import Fraction

from no_fields import refuses_what_is_no_field
from plain import (
    BOX, BROKEN_STRETCH, CROWDED, DOUBLED, EIGHT, FIELDS, HALF_BOX, NO_PLACE, NO_PLACE_OF_THREE, ONE_BROKEN_PLACE,
    ONE_PLACE, PINNED, SPIKE, STRETCH, TRIANGLE, TWICE, fraction_of, place_of, plain_corners, point_of, points_kept,
    some_fields,
)
from things import odd_things

from roundcuts.corners import broken, corners, greatest, holds, tight
from roundcuts.fractions import is_fraction

GREAT = 10 ** 30 - 1
HALF = Fraction(1, 2)


def places(*points):
    return [place_of(x, y) for x, y in points]


def fields():
    return list(FIELDS.values()) + some_fields(60, 4, 7) + some_fields(60, 30, 8)


class Corners(unittest.TestCase):
    def test_the_order(self):
        self.assertEqual(corners(BOX), places((0, 0), (4, 0), (4, 3), (0, 3)))
        self.assertEqual(corners(TRIANGLE), places((0, 0), (5, 0), (0, 5)))
        self.assertEqual(corners(EIGHT), [place_of(Fraction(x, 2), Fraction(y, 2)) for x, y in (
            (-9, -5), (-5, -9), (5, -9), (9, -5), (9, 5), (5, 9), (-5, 9), (-9, 5))])

    def test_it_begins_with_the_least_x_of_those_the_least_y(self):
        slant = ((1, 1, 2), (-1, -1, 2), (1, -1, 2), (-1, 1, 2))
        self.assertEqual(corners(slant), places((-2, 0), (0, -2), (2, 0), (0, 2)))
        upside = ((1, 0, 0), (0, 1, 0), (-1, -1, 5))
        self.assertEqual(corners(upside), places((-5, 0), (0, -5), (0, 0)))
        leaning = ((-1, 0, 3), (1, 1, 0), (1, -1, 0))
        self.assertEqual(corners(leaning), places((-3, -3), (0, 0), (-3, 3)))

    def test_the_order_of_the_rows_does_not_count(self):
        for field in (BOX, SPIKE, STRETCH, PINNED, HALF_BOX):
            for ordered in itertools.permutations(field):
                self.assertEqual(corners(ordered), corners(field))

    def test_broken_ones_in_lowest_terms(self):
        self.assertEqual(corners(SPIKE), [((1, 6), (1, 2)), ((11, 6), (1, 2)), ((1, 1), (3, 1))])
        self.assertEqual(corners(((4, 0, 6), (-4, 0, 2), (0, 6, 9), (0, -6, 3))), places(
            (-HALF, -HALF), (3 * HALF, -HALF), (3 * HALF, 3 * HALF), (-HALF, 3 * HALF)))

    def test_each_once_where_many_rows_are_tight(self):
        self.assertEqual(corners(CROWDED), places((0, 0), (5 * HALF, 0), (5 * HALF, 5 * HALF), (0, 5 * HALF)))
        self.assertEqual(corners(TWICE), corners(TRIANGLE))
        self.assertEqual(corners(DOUBLED), places((0, 0), (5 * HALF, 0), (5 * HALF, Fraction(5, 3)), (0, Fraction(5, 3))))
        self.assertEqual(corners(BOX + ((1, 1, 7), (2, 1, 11), (1, 3, 13), (-1, -1, 0))), corners(BOX))

    def test_one_corner(self):
        self.assertEqual(corners(ONE_PLACE), places((2, -3)))
        self.assertEqual(corners(ONE_BROKEN_PLACE), places((HALF, Fraction(2, 3))))
        self.assertEqual(corners(PINNED), places((1, 1)))
        self.assertEqual(corners(((1, 1, 0), (-1, 0, 0), (0, -1, 0))), places((0, 0)))

    def test_two_corners(self):
        self.assertEqual(corners(STRETCH), places((0, 3), (3, 0)))
        self.assertEqual(corners(BROKEN_STRETCH), places((HALF, -HALF), (HALF, 7 * HALF)))
        self.assertEqual(corners(((0, 1, 2), (0, -1, -2), (1, 0, 3), (-3, 0, 1))), places((Fraction(-1, 3), 2), (3, 2)))

    def test_nothing(self):
        for field in (NO_PLACE, NO_PLACE_OF_THREE, BOX + ((1, 0, -1),), BOX + ((1, 1, -1000),)):
            self.assertEqual(corners(field), [])

    def test_by_the_words(self):
        for field in fields():
            self.assertEqual(corners(field), plain_corners(field), field)

    def test_all_are_places(self):
        for field in fields():
            told = corners(field)
            self.assertIs(told.__class__, list)
            for place in told:
                self.assertIs(place.__class__, tuple)
                self.assertEqual([is_fraction(part) for part in place], [True, True], place)

    def test_always_on_to_the_left(self):
        for field in fields():
            points = [point_of(place) for place in corners(field)]
            self.assertEqual(points[:1], sorted(points)[:1])
            for at in range(len(points) if len(points) > 2 else 0):
                (a, b), (c, d), (e, f) = points[at - 2], points[at - 1], points[at]
                self.assertGreater((c - a) * (f - d) - (d - b) * (e - c), 0)

    def test_the_list_is_the_askers_own(self):
        for field in fields():
            one = corners(field)
            before = copy.deepcopy(one)
            other = corners(field)
            self.assertIsNot(one, other)
            one.append(None)
            one.reverse()
            self.assertEqual(other, before)
            self.assertEqual(corners(field), before)

    def test_no_field(self):
        refuses_what_is_no_field(self, corners)


class Tight(unittest.TestCase):
    def test_at_corners(self):
        self.assertEqual(tight(BOX, place_of(0, 0)), (1, 3))
        self.assertEqual(tight(BOX, place_of(4, 0)), (0, 3))
        self.assertEqual(tight(BOX, place_of(4, 3)), (0, 2))
        self.assertEqual(tight(SPIKE, ((1, 6), (1, 2))), (0, 2))

    def test_on_sides(self):
        self.assertEqual(tight(BOX, place_of(0, HALF)), (1,))
        self.assertEqual(tight(TRIANGLE, place_of(Fraction(1, 3), Fraction(14, 3))), (2,))
        self.assertEqual(tight(STRETCH, place_of(1, 2)), (0, 1))

    def test_inside(self):
        self.assertEqual(tight(BOX, place_of(1, 1)), ())
        self.assertEqual(tight(TRIANGLE, place_of(HALF, HALF)), ())

    def test_outside(self):
        self.assertEqual(tight(BOX, place_of(100, 100)), ())
        self.assertEqual(tight(BOX, place_of(4, 100)), (0,))
        self.assertEqual(tight(BOX, place_of(-1, 3)), (2,))
        self.assertEqual(tight(TRIANGLE, place_of(-5, 10)), (2,))
        self.assertEqual(tight(NO_PLACE, place_of(-1, 5)), (0, 2))
        self.assertEqual(tight(NO_PLACE, place_of(1, 0)), (1,))

    def test_of_a_row_that_is_twice_there(self):
        self.assertEqual(tight(TWICE, place_of(0, 0)), (0, 1, 3, 4))
        self.assertEqual(tight(TWICE, place_of(1, 4)), (2, 5))
        self.assertEqual(tight(DOUBLED, place_of(Fraction(5, 2), 1)), (0, 1))

    def test_many(self):
        self.assertEqual(tight(CROWDED, place_of(0, 0)), (0, 1, 2))
        self.assertEqual(tight(CROWDED, place_of(Fraction(5, 2), Fraction(5, 2))), (3, 4, 5, 6))
        self.assertEqual(tight(ONE_PLACE, place_of(2, -3)), (0, 1, 2, 3))

    def test_hardly_off(self):
        for step in (Fraction(1, GREAT), Fraction(-1, GREAT)):
            self.assertEqual(tight(BOX, place_of(4 + step, 0)), (3,))
            self.assertEqual(tight(BOX, place_of(4, step)), (0,))

    def test_by_the_words(self):
        for field in fields():
            for place in corners(field) + [place_of(0, 0), place_of(1, HALF)]:
                x, y = point_of(place)
                wanted = tuple(at for at, (a, b, c) in enumerate(field) if a * x + b * y == c)
                told = tight(field, place)
                self.assertIs(told.__class__, tuple)
                self.assertEqual(told, wanted, (field, place))
                self.assertFalse([number for number in told if number.__class__ is not int])

    def test_no_field(self):
        for place in [place_of(0, 0)] + odd_things()[::5]:
            refuses_what_is_no_field(self, lambda thing: tight(thing, place))


class Broken(unittest.TestCase):
    def test_none(self):
        for field in (BOX, TRIANGLE, STRETCH, ONE_PLACE, PINNED, TWICE, NO_PLACE, NO_PLACE_OF_THREE):
            self.assertEqual(broken(field), [])

    def test_some_in_order(self):
        self.assertEqual(broken(SPIKE), [((1, 6), (1, 2)), ((11, 6), (1, 2))])
        self.assertEqual(broken(CROWDED), places((5 * HALF, 0), (5 * HALF, 5 * HALF), (0, 5 * HALF)))

    def test_broken_in_x_or_in_y_alone(self):
        self.assertEqual(broken(((2, 0, 5), (-1, 0, 0), (0, 1, 1), (0, -1, 0))), places((5 * HALF, 0), (5 * HALF, 1)))
        self.assertEqual(broken(((1, 0, 1), (-1, 0, 0), (0, 2, 1), (0, -1, 0))), places((1, HALF), (0, HALF)))

    def test_all(self):
        for field in (HALF_BOX, EIGHT, BROKEN_STRETCH, ONE_BROKEN_PLACE):
            self.assertEqual(broken(field), corners(field))
            self.assertNotEqual(broken(field), [])

    def test_by_the_words(self):
        for field in fields():
            wanted = [place for place in plain_corners(field) if not (place[0][1] == 1 and place[1][1] == 1)]
            self.assertEqual(broken(field), wanted, field)

    def test_the_list_is_the_askers_own(self):
        one = broken(HALF_BOX)
        one.clear()
        self.assertEqual(broken(HALF_BOX), corners(HALF_BOX))
        other = broken(BOX)
        other.append(1)
        self.assertEqual(broken(BOX), [])

    def test_no_field(self):
        refuses_what_is_no_field(self, broken)


class Greatest(unittest.TestCase):
    def test_in_each_quarter(self):
        self.assertEqual(greatest(BOX, 2, 3), (17, 1))
        self.assertEqual(greatest(BOX, -2, 3), (9, 1))
        self.assertEqual(greatest(BOX, -2, -3), (0, 1))
        self.assertEqual(greatest(BOX, 2, -3), (8, 1))
        self.assertEqual(greatest(HALF_BOX, 1, 1), (4, 1))
        self.assertEqual(greatest(HALF_BOX, -1, 2), (11, 2))
        self.assertEqual(greatest(HALF_BOX, -3, -1), (3, 1))
        self.assertEqual(greatest(HALF_BOX, 2, -1), (9, 2))

    def test_along_a_side(self):
        self.assertEqual(greatest(BOX, 1, 0), (4, 1))
        self.assertEqual(greatest(BOX, 0, -5), (0, 1))
        self.assertEqual(greatest(TRIANGLE, 3, 3), (15, 1))
        self.assertEqual(greatest(STRETCH, 1, 1), (3, 1))
        self.assertEqual(greatest(STRETCH, -1, -1), (-3, 1))

    def test_with_0_and_0(self):
        for field in fields():
            self.assertEqual(greatest(field, 0, 0), (0, 1) if points_kept(field) else None, field)

    def test_below_0(self):
        self.assertEqual(greatest(ONE_PLACE, 1, 1), (-1, 1))
        self.assertEqual(greatest(ONE_BROKEN_PLACE, -1, -1), (-7, 6))
        self.assertEqual(greatest(((1, 0, -3), (-1, 0, 9), (0, 1, -2), (0, -1, 9)), 2, 3), (-12, 1))

    def test_great_numbers(self):
        self.assertEqual(greatest(BOX, GREAT, -GREAT), (4 * GREAT, 1))
        self.assertEqual(greatest(SPIKE, -GREAT, 0), fraction_of(Fraction(-GREAT, 6)))
        self.assertEqual(greatest(HALF_BOX, GREAT, GREAT), (4 * GREAT, 1))

    def test_nothing_is_left(self):
        for field in (NO_PLACE, NO_PLACE_OF_THREE):
            for a, b in ((1, 0), (0, 0), (-3, 7), (GREAT, -GREAT)):
                self.assertIsNone(greatest(field, a, b))

    def test_by_the_words(self):
        asked = [(a, b) for a in (-7, -2, 0, 1, 5) for b in (-3, -1, 0, 4, 9)] + [(GREAT, 1 - GREAT), (-GREAT, 3)]
        for field in fields():
            points = points_kept(field)
            for a, b in asked:
                wanted = fraction_of(max(a * x + b * y for x, y in points)) if points else None
                self.assertEqual(greatest(field, a, b), wanted, (field, a, b))

    def test_no_field(self):
        for a, b in ((1, 2), (0, 0), (None, "x"), ([], {})):
            refuses_what_is_no_field(self, lambda thing: greatest(thing, a, b))


class Holds(unittest.TestCase):
    def test_at_below_and_above(self):
        self.assertIs(holds(BOX, (1, 1, 7)), True)
        self.assertIs(holds(BOX, (1, 1, 6)), False)
        self.assertIs(holds(BOX, (1, 1, 8)), True)

    def test_of_broken_ones(self):
        # The greatest value of x there is 11/6, of -x it is -1/6.
        self.assertIs(holds(SPIKE, (1, 0, 1)), False)
        self.assertIs(holds(SPIKE, (1, 0, 2)), True)
        self.assertIs(holds(SPIKE, (6, 0, 11)), True)
        self.assertIs(holds(SPIKE, (6, 0, 10)), False)
        self.assertIs(holds(SPIKE, (-1, 0, 0)), True)
        self.assertIs(holds(SPIKE, (-1, 0, -1)), False)
        self.assertIs(holds(SPIKE, (-6, 0, -1)), True)
        self.assertIs(holds(SPIKE, (-6, 0, -2)), False)

    def test_its_own_rows(self):
        for field in fields():
            for row in field:
                self.assertIs(holds(field, row), True)

    def test_each_row_where_nothing_is_left(self):
        for row in ((1, 0, -GREAT), (-1, 0, -GREAT), (3, -7, 0), (GREAT, GREAT, -1)):
            self.assertIs(holds(NO_PLACE, row), True)
            self.assertIs(holds(NO_PLACE_OF_THREE, row), True)

    def test_by_the_words(self):
        for field in fields():
            points = points_kept(field)
            for a, b in ((1, 0), (-2, 3), (5, -1), (-1, -1), (GREAT, 2)):
                best = max((a * x + b * y for x, y in points), default=Fraction(0))
                for c in (best.__floor__() - 1, best.__floor__(), best.__ceil__(), best.__ceil__() + 1):
                    self.assertIs(holds(field, (a, b, c)), not points or best <= c, (field, a, b, c))

    def test_no_field(self):
        for row in [(1, 0, 0)] + odd_things()[::5]:
            refuses_what_is_no_field(self, lambda thing: holds(thing, row))


class AskedAgain(unittest.TestCase):
    def test_names_of_the_arguments(self):
        self.assertEqual(corners(field=TRIANGLE), places((0, 0), (5, 0), (0, 5)))
        self.assertEqual(tight(field=TRIANGLE, place=place_of(0, 0)), (0, 1))
        self.assertEqual(broken(field=TRIANGLE), [])
        self.assertEqual(greatest(field=TRIANGLE, a=1, b=2), (10, 1))
        self.assertIs(holds(field=TRIANGLE, row=(1, 2, 10)), True)

    def answers(self, field):
        place = place_of(0, 0)
        return [corners(field), tight(field, place), broken(field), greatest(field, 1, 2), holds(field, (1, 2, 3))]

    def test_the_answers_stay(self):
        asked = fields()
        forth = [self.answers(field) for field in asked]
        back = [self.answers(field) for field in reversed(asked)]
        self.assertEqual(forth, back[::-1])
        self.assertEqual(asked, fields())


if __name__ == "__main__":
    unittest.main()
