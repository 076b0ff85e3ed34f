import copy
import functools
import unittest

from no_fields import refuses_what_is_no_field
from plain import (
    BETWEEN_LINES, BOX, BROKEN_STRETCH, DEEP_FIELDS, EMPTY_SPIKE, EMPTY_TRIANGLE, FIELDS, HALF_BOX, LONG_SPIKE,
    NO_PLACE, NO_PLACE_OF_THREE, ONE_BROKEN_PLACE, ONE_PLACE, PINNED, SLANT_SQUARE, SPIKE, STRETCH, TRIANGLE,
    is_plain_field, plain_rounds, plain_sum, points_kept, some_fields, some_rows, whole_points,
)
from things import nested, odd_things

from roundcuts.nones import no_whole_place, none_behind, none_way, nothing_weights, shows_nothing
from roundcuts.ways import depth_of, way_of, way_shows

GREAT = 10 ** 30 - 1
NONE = (0, 1)
ONE = (1, 1)
HALF = (1, 2)
# Like rows, and rows that don't count, stand among those that leave nothing.
CLASH_OF_TWO = ((0, 1, 5), (1, 0, -1), (0, -1, 5), (1, 0, -1), (-1, 0, -1), (-1, 0, -1))
CLASH_OF_THREE = ((1, 0, 9), (1, 1, -1), (1, 1, -1), (-1, 0, 0), (-1, 0, 0), (0, -1, 0), (0, -1, 0))
SCALED_CLASH = ((6, 4, 7), (-9, -6, -11), (1, -1, 9), (-1, 1, 9))
SLANT_CLASH = ((7, 3, 2), (-5, 4, 1), (-1, -9, -5))
NO_WHOLE_PLACE = (
    (NO_PLACE, 0), (NO_PLACE_OF_THREE, 0), (CLASH_OF_TWO, 0), (CLASH_OF_THREE, 0), (SCALED_CLASH, 0), (SLANT_CLASH, 0),
    (BETWEEN_LINES, 1), (BROKEN_STRETCH, 1), (ONE_BROKEN_PLACE, 1), (EMPTY_SPIKE, 1), (SLANT_SQUARE, 2),
    (EMPTY_TRIANGLE, 2), (((2, 2, 1), (-2, -2, -1), (1, -1, 5), (-1, 1, 5)), 1), (((6, -3, 2), (-3, -6, -1), (-10, 8, 5)), 2),
)


@functools.cache
def fields():
    by_chance = [rows for size in (2, 4, 9, 30) for rows in some_rows(700, size, size + 50) if is_plain_field(rows)]
    return tuple(list(FIELDS.values()) + list(DEEP_FIELDS.values()) + [field for field, many in NO_WHOLE_PLACE]
                 + by_chance + some_fields(20, 5, 51))


class NothingWeights(unittest.TestCase):
    def showing(self, field):
        weights = nothing_weights(field)
        self.assertIs(weights.__class__, tuple)
        self.assertIs(shows_nothing(field, weights), True, (field, weights))
        a, b, c = plain_sum(field, weights)
        self.assertTrue(a == b == 0 > c, (field, weights))
        self.assertEqual(len(weights), len(field))
        self.assertLessEqual(len([weight for weight in weights if weight != NONE]), 3)

    def test_two_rows_against_one_another(self):
        for field in (NO_PLACE, CLASH_OF_TWO, SCALED_CLASH):
            self.showing(field)

    def test_three_rows_against_one_another(self):
        for field in (NO_PLACE_OF_THREE, CLASH_OF_THREE, SLANT_CLASH):
            self.showing(field)

    def test_something_is_left(self):
        for field in (BOX, TRIANGLE, SPIKE, ONE_PLACE, ONE_BROKEN_PLACE, PINNED, STRETCH, BROKEN_STRETCH, SLANT_SQUARE):
            self.assertIsNone(nothing_weights(field))

    def test_hardly_nothing(self):
        # Two rows at 1/29 and 1/30, and two at one number.
        self.showing(((30, 0, 1), (-29, 0, -1), (0, 1, 1), (0, -1, 1)))
        self.assertIsNone(nothing_weights(((30, 0, 30), (-29, 0, -29), (0, 1, 1), (0, -1, 1))))

    def test_each_field(self):
        nothing = 0
        for field in fields():
            if points_kept(field):
                self.assertIsNone(nothing_weights(field), field)
            else:
                self.showing(field)
                nothing += 1
        self.assertGreater(nothing, 100)

    def test_no_field(self):
        refuses_what_is_no_field(self, nothing_weights)


class ShowsNothing(unittest.TestCase):
    def test_weights(self):
        # x is at most -1, and at least 1; y is from -5 to 5.
        for weights, wanted in (
                ((ONE, ONE, NONE, NONE), True), ((HALF, HALF, NONE, NONE), True), ((ONE, ONE, HALF, HALF), False),
                ((ONE, ONE, (1, 5), (1, 5)), False), ((ONE, ONE, (1, 6), (1, 6)), True), ((ONE, ONE, NONE, (1, 9)), False),
                ((ONE, NONE, NONE, NONE), False), ((NONE, NONE, ONE, ONE), False), ((NONE,) * 4, False),
                (((GREAT, 1), (GREAT, 1), NONE, NONE), True), (((1, GREAT), (1, GREAT), NONE, NONE), True),
                (((1, GREAT), (1, GREAT - 1), NONE, NONE), False)):
            self.assertIs(shows_nothing(NO_PLACE, weights), wanted, weights)

    def test_where_something_is_left(self):
        for field in (BOX, STRETCH, ONE_PLACE, BROKEN_STRETCH):
            for weights in ((ONE,) * 4, (ONE, ONE, NONE, NONE), (NONE, NONE, HALF, HALF), (NONE,) * 4):
                self.assertIs(shows_nothing(field, weights), False)

    def test_no_weights(self):
        good = (ONE, ONE, NONE, NONE)
        wrong = [good[:3], good + (NONE,), (), list(good), [list(weight) for weight in good], dict(enumerate(good)),
                 str(good), (good,), [good], nested(good, 16), 0, 1, GREAT, NO_PLACE]
        for weight in ((-1, 1), (-1, 2), (2, 2), (1, 0), (1, -1), (-1, -1), 1, True, (True, 1), (1, True), (True, True),
                       [1, 1], None, "1", (1,), (1, 1, 1), (ONE, ONE), {1: 1}, nested(ONE, 16)):
            wrong += [(weight,) + good[1:], (ONE, weight, NONE, NONE), (weight, weight, NONE, NONE)]
        for weight in ((0, 2), (0, 0), (0, -1), (False, 1), (0, True), 0, False, None, [0, 1], -1):
            wrong += [(ONE, ONE, weight, NONE), (ONE, ONE, NONE, weight)]
        for thing in wrong + odd_things():
            before = copy.deepcopy(thing)
            self.assertIs(shows_nothing(NO_PLACE, thing), False, thing)
            self.assertEqual(thing, before)

    def test_no_field(self):
        for thing in [(ONE, ONE, NONE, NONE)] + odd_things()[::6]:
            refuses_what_is_no_field(self, lambda field: shows_nothing(field, thing))


class NoWholePlace(unittest.TestCase):
    def test_none(self):
        for field, many in NO_WHOLE_PLACE:
            self.assertIs(no_whole_place(field), True, field)

    def test_some(self):
        for field in (BOX, HALF_BOX, LONG_SPIKE, ONE_PLACE, PINNED, STRETCH):
            self.assertIs(no_whole_place(field), False)

    def test_gone_through(self):
        for field in fields():
            self.assertIs(no_whole_place(field), not whole_points(field), field)

    def test_no_field(self):
        refuses_what_is_no_field(self, no_whole_place)


class NoneBehind(unittest.TestCase):
    def test_how_many(self):
        for field, many in NO_WHOLE_PLACE:
            self.assertEqual(none_behind(field), many, field)

    def test_a_whole_place_is_left(self):
        for field in (BOX, HALF_BOX, LONG_SPIKE, ONE_PLACE, PINNED, STRETCH):
            self.assertIsNone(none_behind(field))

    def test_by_the_words(self):
        small = [field for field in fields() if all(max(abs(a), abs(b)) <= 12 for a, b, c in field)]
        for field in small:
            lists = plain_rounds(field) if not whole_points(field) else None
            self.assertEqual(none_behind(field), len(lists) - 1 if lists else None, field)
            self.assertTrue(lists is None or lists[-1] == [])

    def test_rows_hold_behind_as_many(self):
        for field, many in NO_WHOLE_PLACE:
            self.assertEqual(depth_of(field, (1, 0, -GREAT)), many)

    def test_no_field(self):
        refuses_what_is_no_field(self, none_behind)


class NoneWay(unittest.TestCase):
    def shown(self, field, many):
        way = none_way(field)
        self.assertIs(way.__class__, list)
        self.assertTrue(1 <= len(way) <= 2000)
        self.assertEqual(way_shows(field, way), ((0, 0, -1), many), field)

    def test_each_depth(self):
        for field, many in NO_WHOLE_PLACE:
            self.shown(field, many)

    def test_each_field(self):
        for field in fields():
            if whole_points(field):
                self.assertIsNone(none_way(field), field)
            else:
                self.shown(field, none_behind(field))

    def test_one_whole_place(self):
        for field in (ONE_PLACE, PINNED, ((2, 0, 3), (-2, 0, -1), (0, 2, 3), (0, -2, -1))):
            self.assertEqual(len(whole_points(field)), 1)
            self.assertIs(no_whole_place(field), False)
            self.assertIsNone(none_behind(field))
            self.assertIsNone(none_way(field))

    def test_what_shows_it_goes_for_any_row(self):
        for field, many in NO_WHOLE_PLACE:
            self.assertEqual(way_shows(field, way_of(field, (3, -7, -GREAT))), ((3, -7, -GREAT), many))

    def test_the_list_is_the_askers_own(self):
        for field, many in NO_WHOLE_PLACE:
            told = none_way(field)
            before = copy.deepcopy(told)
            told.clear()
            self.assertEqual(none_way(field), before)

    def test_no_field(self):
        refuses_what_is_no_field(self, none_way)


class AskedAgain(unittest.TestCase):
    def test_names_of_the_arguments(self):
        self.assertIs(shows_nothing(field=NO_PLACE, thing=nothing_weights(field=NO_PLACE)), True)
        self.assertIs(no_whole_place(field=NO_PLACE), True)
        self.assertEqual(none_behind(field=SLANT_SQUARE), 2)
        self.assertEqual(none_way(field=SLANT_SQUARE), none_way(SLANT_SQUARE))

    def answers(self, field):
        return [nothing_weights(field), no_whole_place(field), none_behind(field), none_way(field)]

    def test_the_answers_stay(self):
        asked = copy.deepcopy(fields())
        forth = [self.answers(field) for field in asked]
        back = [self.answers(field) for field in reversed(asked)]
        self.assertEqual(forth, back[::-1])
        self.assertEqual(asked, fields())


if __name__ == "__main__":
    unittest.main()
