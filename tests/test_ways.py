import copy
import functools
import unittest
from fractions import Fraction

from no_fields import refuses_what_is_no_field
from plain import (
    BETWEEN_LINES, BOX, BROKEN_STRETCH, CROWDED, DEEP_FIELDS, DOUBLED, EIGHT, EMPTY_TRIANGLE, FIELDS, HALF_BOX,
    LONG_SPIKE, LYING_SPIKE, NO_PLACE, NO_PLACE_OF_THREE, ONE_BROKEN_PLACE, PINNED, SLANT_SQUARE, SPIKE, STRETCH,
    TALL_SPIKE, TRIANGLE, TWICE, plain_rounds, plain_sum, point_of, some_fields, whole_points,
)
from things import nested, odd_things

from roundcuts.corners import holds
from roundcuts.sums import cut_towards
from roundcuts.ways import depth_of, way_of, way_shows

GREAT = 10 ** 30 - 1
NONE = (0, 1)
ONE = (1, 1)
HALF = (1, 2)
DIRECTIONS = ((1, 0), (0, 1), (-1, 0), (0, -1), (1, 1), (-1, 2), (3, -2), (2, 0), (0, -4), (60, 60), (-60, 59), (7, -60))


@functools.cache
def fields():
    deep = [field for field in DEEP_FIELDS.values() if field != TALL_SPIKE]
    return tuple(list(FIELDS.values()) + deep + some_fields(25, 3, 41) + some_fields(20, 7, 42) + some_fields(4, 12, 43))


@functools.cache
def points_behind(field):
    return [[point_of(place) for place in told] for told in plain_rounds(field)]


def best(points, a, b):
    return max(a * x + b * y for x, y in points)


def plain_depth(field, row):
    a, b, c = row
    for many, points in enumerate(points_behind(field)):
        if not points or best(points, a, b) <= c:
            return many
    return None


def rows_asked(field):
    """Of some directions rows just at what is left behind each round, one more and one less, and great c."""
    for a, b in DIRECTIONS:
        asked = {GREAT, -GREAT, 0}
        for points in points_behind(field)[:4] + points_behind(field)[-3:]:
            if points:
                c = best(points, a, b).__floor__()
                asked |= {c - 1, c, c + 1}
        for c in sorted(asked):
            yield (a, b, c)


def plain_way(field, way):
    """What a list of lines that look like lines shows, by the words, or None."""
    rows, depths = list(field), [0] * len(field)
    for weights, (a, b, c) in way:
        total = plain_sum(rows, weights)
        if len(weights) != len(rows) or total[:2] != (a, b) or c < total[2].__floor__():
            return None
        depth = max((depth for depth, weight in zip(depths, weights) if weight[0] > 0), default=0)
        rows.append((a, b, c))
        depths.append(depth + (c < total[2]))
    return rows[-1], depths[-1]


class DepthOf(unittest.TestCase):
    def test_rows_that_the_field_holds(self):
        for field in fields():
            for row in field:
                self.assertEqual(depth_of(field, row), 0)
                self.assertEqual(depth_of(field, row[:2] + (row[2] + 1,)), 0)
                self.assertEqual(depth_of(field, row[:2] + (GREAT,)), 0)

    def test_down_a_spike(self):
        # The top stands at y = 10 and goes down half a step each round.
        for c in range(1, 12):
            self.assertEqual(depth_of(LONG_SPIKE, (0, 1, c)), max(0, 20 - 2 * c))
        self.assertEqual(depth_of(LONG_SPIKE, (0, 1, 0)), 20)
        self.assertIsNone(depth_of(LONG_SPIKE, (0, 1, -1)))
        self.assertEqual(depth_of(LONG_SPIKE, (0, 2, 1)), 19)
        self.assertEqual(depth_of(TALL_SPIKE, (0, 1, -3)), 30)
        self.assertIsNone(depth_of(TALL_SPIKE, (0, 1, -4)))

    def test_cuts(self):
        for field in fields():
            for a, b in ((1, 0), (0, -1), (2, 3), (-5, 1)) if points_behind(field)[0] else ():
                row = cut_towards(field, a, b)[1]
                self.assertEqual(depth_of(field, row), 0 if holds(field, row) else 1)

    def test_by_the_words(self):
        for field in fields():
            for row in rows_asked(field):
                self.assertEqual(depth_of(field, row), plain_depth(field, row), (field, row))

    def test_none_just_where_a_whole_place_does_not_keep_it(self):
        for field in fields():
            points = whole_points(field)
            for a, b, c in rows_asked(field):
                unkept = any(a * x + b * y > c for x, y in points)
                self.assertEqual(depth_of(field, (a, b, c)) is None, unkept, (field, a, b, c))

    def test_great_c(self):
        for a, b in ((60, -60), (-60, 60), (60, 59), (-1, 0), (-60, -60)):
            self.assertEqual(depth_of(SPIKE, (a, b, GREAT)), 0)
            self.assertIsNone(depth_of(SPIKE, (a, b, -GREAT)))
            self.assertEqual(depth_of(BETWEEN_LINES, (a, b, -GREAT)), 1)
            self.assertEqual(depth_of(SLANT_SQUARE, (a, b, -GREAT)), 2)
            self.assertEqual(depth_of(NO_PLACE, (a, b, -GREAT)), 0)

    def test_no_whole_place(self):
        self.assertEqual(depth_of(SLANT_SQUARE, (1, 0, 1)), 0)
        # What is left behind one round is the place (1/2, 1/2).
        self.assertEqual(depth_of(SLANT_SQUARE, (2, 0, 1)), 1)
        self.assertEqual(depth_of(SLANT_SQUARE, (2, 0, 0)), 2)
        self.assertEqual(depth_of(BROKEN_STRETCH, (1, 0, -5)), 1)
        self.assertEqual(depth_of(ONE_BROKEN_PLACE, (1, 0, 0)), 1)

    def test_no_field(self):
        for row in [(1, 0, 0)] + odd_things()[::6]:
            refuses_what_is_no_field(self, lambda thing: depth_of(thing, row))


def no_lines():
    """Lines ahead of which a triangle stands alone, each with one fault."""
    good = ((HALF, ONE, HALF), (0, 0, 3))
    weights, row = good
    quarter = (1, 4)
    wrong = [
        (weights[:2], row), (weights + (NONE,), row), ((), row), (list(weights), row), (tuple(map(list, weights)), row),
        (weights, list(row)), (weights, row[:2]), (weights, row + (0,)), (weights, ()), (weights, None), (weights, 0),
        (weights, row[:2] + (True,)), (weights, (False, 0, 3)), (weights, (0, False, 3)), (weights, row[:2] + (ONE,)),
        (weights, (1, 0, 3)), (weights, (0, 1, 3)), (weights, (0, 0, 1)), (weights, (0, 0, -GREAT)),
        ((NONE, quarter, NONE), (0, 0, 9)), ((NONE, quarter, NONE), (0, -1, 9)), ((quarter, NONE, NONE), (0, 0, 9)),
        ((quarter, NONE, NONE), (-1, 0, 9)), (weights, (0, 0, None)), (weights, (0, 0, "3")),
        list(good), good + (0,), good[:1], (row, weights), (), None, weights, row, (weights, row, row), {weights: row},
        str(good), [good], (good,), nested(good, 16),
    ]
    for weight in ((-1, 2), (-1, 1), (2, 4), (2, 2), (3, 3), (1, 0), (1, -2), (-1, -2), 1, True, None, "1/2", [1, 2], (1,),
                   (True, 2), (1, True), (True, True), (1, 2, 3), (HALF, ONE), {1: 2}, nested(HALF, 16), (None, 1)):
        wrong += [((weight,) + weights[1:], row), ((HALF, weight, HALF), row), (weights[:2] + (weight,), row)]
    for weight in ((0, 2), (0, 0), (False, 1), (0, True), 0, False, (0, -1), [0, 1], None):
        wrong += [((weight, NONE, NONE), (0, 0, 0)), ((NONE, NONE, weight), (0, 0, 0))]
    return [good], wrong


class WayShows(unittest.TestCase):
    def test_one_line(self):
        # 2 x and 2 y are at least 1 and x + y is at most 3: of these rows sums and cuts.
        field = ((-2, 0, -1), (0, -2, -1), (1, 1, 3))
        for weights, row, depth in (
                ((ONE, NONE, NONE), (-2, 0, -1), 0),
                ((NONE, NONE, ONE), (1, 1, 3), 0),
                ((NONE, NONE, ONE), (1, 1, 4), 0),
                ((NONE, NONE, ONE), (1, 1, GREAT), 0),
                ((HALF, NONE, NONE), (-1, 0, -1), 1),
                ((HALF, NONE, NONE), (-1, 0, 0), 0),
                ((HALF, NONE, ONE), (0, 1, 2), 1),
                ((HALF, NONE, ONE), (0, 1, 3), 0),
                ((HALF, HALF, NONE), (-1, -1, -1), 0),
                ((HALF, HALF, ONE), (0, 0, 2), 0),
                ((HALF, HALF, ONE), (0, 0, 3), 0),
                ((NONE, NONE, NONE), (0, 0, 0), 0),
                ((NONE, NONE, NONE), (0, 0, 5), 0),
                (((7, 1), (7, 1), (14, 1)), (0, 0, 28), 0),
                ((HALF, (GREAT, 1), ((2 * GREAT + 1), 1)), (2 * GREAT, 1, 5 * GREAT + 2), 1)):
            self.assertEqual(way_shows(field, [(weights, row)]), (row, depth), (weights, row))

    def test_rounded_below_the_sum(self):
        field = ((-2, 0, -1), (0, -2, -1), (1, 1, 3))
        for weights, row in (((HALF, NONE, NONE), (-1, 0, -2)), ((HALF, NONE, ONE), (0, 1, 1)),
                             ((NONE, NONE, NONE), (0, 0, -1)), ((HALF, HALF, ONE), (0, 0, 1))):
            self.assertIsNone(way_shows(field, [(weights, row)]))

    def test_both_0(self):
        field = ((-2, 0, -1), (0, -2, -1), (1, 1, 3))
        half = ((1, 4), (1, 4), HALF)
        self.assertEqual(way_shows(field, [(half, (0, 0, 1))]), ((0, 0, 1), 0))
        third = ((1, 6), (1, 6), (1, 3))
        self.assertEqual(way_shows(field, [(third, (0, 0, 0))]), ((0, 0, 0), 1))
        self.assertEqual(way_shows(field, [(third, (0, 0, 1))]), ((0, 0, 1), 0))
        self.assertIsNone(way_shows(field, [(third, (0, 0, -1))]))

    def test_several_lines(self):
        field = ((-2, 0, -1), (0, -2, -1), (1, 1, 3))
        way = [((HALF, NONE, NONE), (-1, 0, -1)), ((NONE, HALF, NONE, NONE), (0, -1, -1))]
        self.assertEqual(way_shows(field, way), ((0, -1, -1), 1))
        way.append(((NONE, NONE, NONE, ONE, ONE), (-1, -1, -2)))
        self.assertEqual(way_shows(field, way), ((-1, -1, -2), 1))
        way.append(((NONE, NONE, ONE, NONE, NONE, ONE), (0, 0, 1)))
        self.assertEqual(way_shows(field, way), ((0, 0, 1), 1))
        way.append(((NONE, NONE, NONE, NONE, NONE, NONE, HALF), (0, 0, 0)))
        self.assertEqual(way_shows(field, way), ((0, 0, 0), 2))
        way.append(((NONE, NONE, ONE) + (NONE,) * 5, (1, 1, 3)))
        self.assertEqual(way_shows(field, way), ((1, 1, 3), 0))
        for at in range(6):
            self.assertEqual(way_shows(field, way[:at + 1]), plain_way(field, way[:at + 1]))

    def test_depth_of_what_is_used_alone(self):
        field = ((-2, 0, -1), (0, -2, -1), (1, 1, 3))
        deep = ((HALF, NONE, NONE), (-1, 0, -1))
        self.assertEqual(way_shows(field, [deep, ((ONE, NONE, NONE, NONE), (-2, 0, -1))]), ((-2, 0, -1), 0))
        self.assertEqual(way_shows(field, [deep, ((NONE, NONE, NONE, (2, 1)), (-2, 0, -2))]), ((-2, 0, -2), 1))
        self.assertEqual(way_shows(field, [deep, ((NONE, NONE, NONE, HALF), (0, 0, 0))]), None)
        self.assertEqual(way_shows(field, [deep, ((NONE, HALF, NONE, NONE), (0, -1, -1))]), ((0, -1, -1), 1))
        self.assertEqual(way_shows(field, [deep, ((NONE, HALF, NONE, ONE), (-1, -1, -2))]), ((-1, -1, -2), 2))

    def test_no_weight_for_the_line_itself_or_one_behind(self):
        field = TRIANGLE
        self.assertIsNone(way_shows(field, [((NONE, NONE, ONE, NONE), (1, 1, 5))]))
        self.assertIsNone(way_shows(field, [((NONE, NONE, ONE), (1, 1, 5)), ((NONE, NONE, ONE), (1, 1, 5))]))
        self.assertIsNotNone(way_shows(field, [((NONE, NONE, ONE), (1, 1, 5)), ((NONE, NONE, ONE, NONE), (1, 1, 5))]))

    def test_no_lines(self):
        good, wrong = no_lines()
        field = ((-2, 0, -1), (0, -2, -1), (2, 4, 9))
        self.assertEqual(way_shows(field, good), ((0, 0, 3), 0))
        for line in wrong + odd_things():
            before = copy.deepcopy(line)
            self.assertIsNone(way_shows(field, [line]), line)
            self.assertIsNone(way_shows(field, [line] + good), line)
            self.assertEqual(line, before)

    def test_no_line_behind_others(self):
        ahead = [((NONE, NONE, ONE), (2, 4, 9))]
        field = ((-2, 0, -1), (0, -2, -1), (2, 4, 9))
        good, wrong = no_lines()
        for line in wrong:
            if isinstance(line, tuple) and len(line) == 2 and isinstance(line[0], tuple):
                self.assertIsNone(way_shows(field, ahead + [(line[0] + (NONE,), line[1])]), line)
        weights, row = good[0]
        self.assertEqual(way_shows(field, ahead + [(weights + (NONE,), row)]), (row, 0))

    def test_how_many_lines(self):
        self.assertIsNone(way_shows(TRIANGLE, []))
        lines = [((NONE, NONE, ONE) + (NONE,) * at, (1, 1, 5)) for at in range(2001)]
        self.assertEqual(way_shows(TRIANGLE, lines[:2000]), ((1, 1, 5), 0))
        self.assertIsNone(way_shows(TRIANGLE, lines))

    def test_each_line_a_step_deeper(self):
        # The half of the field's rows and the line ahead, then a quarter of this.
        lines = []
        for at in range(40):
            if at % 2 == 0:
                lines.append(((HALF,) * 3 + (NONE,) * (at - 1) + (ONE,) * min(at, 1), (0, 0, 2)))
            else:
                lines.append(((NONE,) * (at + 2) + ((1, 4),), (0, 0, 0)))
            self.assertEqual(way_shows(TRIANGLE, lines), (lines[-1][1], at + 1))
            self.assertEqual(way_shows(TRIANGLE, lines), plain_way(TRIANGLE, lines))

    def test_great_weights(self):
        bottoms = [10 ** 29 + 2 * at + 1 for at in range(8)]
        weights = tuple((bottom - 1, bottom) for bottom in bottoms)
        self.assertIsNone(way_shows(EIGHT, [(weights, (0, 0, 0))]))
        pair = ((GREAT, GREAT - 1), NONE) * 2 + (NONE,) * 4
        row = (0, 0, Fraction(18 * GREAT, GREAT - 1).__floor__())
        self.assertEqual(way_shows(EIGHT, [(pair, row)]), (row, 1))
        self.assertEqual(way_shows(EIGHT, [(pair, row[:2] + (row[2] + 1,))]), (row[:2] + (row[2] + 1,), 0))
        self.assertIsNone(way_shows(EIGHT, [(pair, row[:2] + (row[2] - 1,))]))

    def test_a_long_way_of_great_weights(self):
        lines = []
        for at in range(60):
            share = (10 ** 29 + at, 10 ** 29 + at + 1)
            many = (share,) * 2 + (share,) + (NONE,) * at
            top = Fraction(5 * share[0], share[1])
            lines.append((many, (0, 0, top.__floor__() + at % 2)))
        self.assertEqual(way_shows(TRIANGLE, lines), plain_way(TRIANGLE, lines))
        self.assertIsNotNone(way_shows(TRIANGLE, lines))

    def test_other_things(self):
        good = [((NONE, NONE, ONE), (1, 1, 5))]
        self.assertIsNotNone(way_shows(TRIANGLE, good))
        for thing in odd_things() + [tuple(good), dict(enumerate(good)), str(good), good[0], [good], (good,), 0, 1, GREAT,
                                     TRIANGLE, list(TRIANGLE), {"a": good}, good + [None], [None] + good, nested(good, 16)]:
            before = copy.deepcopy(thing)
            self.assertIsNone(way_shows(TRIANGLE, thing), thing)
            self.assertEqual(thing, before)

    def test_whole_places_keep_what_is_shown(self):
        for field in fields()[::2]:
            for row in list(rows_asked(field))[::5]:
                for weights, (a, b, c) in way_of(field, row) or []:
                    for x, y in whole_points(field)[::7]:
                        self.assertLessEqual(a * x + b * y, c)

    def test_nothing_hangs_on_what_is_done_later(self):
        way = [((NONE, NONE, ONE), (1, 1, 5))]
        told = way_shows(TRIANGLE, way)
        way.clear()
        self.assertEqual(told, ((1, 1, 5), 0))
        self.assertIsNone(way_shows(TRIANGLE, way))

    def test_no_field(self):
        for thing in [[((NONE, NONE, ONE), (1, 1, 5))], []] + odd_things()[::6]:
            refuses_what_is_no_field(self, lambda field: way_shows(field, thing))


class WayOf(unittest.TestCase):
    def shown(self, field, row, depth):
        way = way_of(field, row)
        if depth is None:
            self.assertIsNone(way)
            return
        self.assertIs(way.__class__, list)
        self.assertTrue(1 <= len(way) <= 2000)
        self.assertEqual(way[-1][1], row)
        self.assertEqual(way_shows(field, way), (row, depth), (field, row))
        self.assertEqual(plain_way(field, way), (row, depth), (field, row))

    def test_by_the_words(self):
        for field in fields():
            for row in list(rows_asked(field))[::2]:
                self.shown(field, row, plain_depth(field, row))

    def test_its_depth(self):
        for field in fields():
            for row in list(rows_asked(field))[1::4]:
                self.shown(field, row, depth_of(field, row))

    def test_down_a_spike(self):
        for c in range(-1, 12):
            self.shown(LONG_SPIKE, (0, 1, c), None if c < 0 else max(0, 20 - 2 * c))
        self.shown(TALL_SPIKE, (0, 1, -3), 30)
        self.shown(TALL_SPIKE, (-60, 59, -177), 29)
        self.shown(TALL_SPIKE, (-59, 60, -180), 30)
        self.shown(TALL_SPIKE, (0, 1, -4), None)

    def test_far_fewer_lines_than_2000(self):
        # No other field that was tried has ways of more lines than spikes of thirty rounds and their like.
        for row in ((0, 1, -3), (-59, 60, -180), (60, 59, -117)):
            self.assertLess(len(way_of(TALL_SPIKE, row)), 200)

    def test_the_fields_own_rows(self):
        for field in (BOX, TWICE, DOUBLED, PINNED, CROWDED, STRETCH, NO_PLACE, SPIKE):
            for row in field:
                self.shown(field, row, 0)
                self.shown(field, row[:2] + (GREAT,), 0)

    def test_where_nothing_is_left(self):
        for field in (NO_PLACE, NO_PLACE_OF_THREE):
            for a, b in DIRECTIONS:
                for c in (0, -1, 7, -100, GREAT, -GREAT):
                    self.shown(field, (a, b, c), 0)

    def test_where_nothing_is_left_in_the_end(self):
        for field, most in ((BROKEN_STRETCH, 1), (ONE_BROKEN_PLACE, 1), (BETWEEN_LINES, 1), (SLANT_SQUARE, 2),
                            (EMPTY_TRIANGLE, 2)):
            for a, b in DIRECTIONS:
                self.shown(field, (a, b, -GREAT), most)
                self.shown(field, (a, b, GREAT), 0)
                self.shown(field, (a, b, -100), most)

    def test_none_where_a_whole_place_does_not_keep_it(self):
        for field in (BOX, HALF_BOX, SPIKE, LYING_SPIKE, LONG_SPIKE):
            for a, b in DIRECTIONS:
                c = max(a * x + b * y for x, y in whole_points(field))
                self.shown(field, (a, b, c - 1), None)
                self.shown(field, (a, b, -GREAT), None)
                self.assertIsNotNone(way_of(field, (a, b, c)))

    def test_the_list_is_the_askers_own(self):
        for field, row in ((LONG_SPIKE, (0, 1, 5)), (BOX, (1, 1, 7)), (SLANT_SQUARE, (1, 0, -1))):
            told = way_of(field, row)
            before = copy.deepcopy(told)
            told.clear()
            self.assertEqual(way_of(field, row), before)

    def test_no_field(self):
        for row in [(1, 0, 0)] + odd_things()[::6]:
            refuses_what_is_no_field(self, lambda thing: way_of(thing, row))


class AskedAgain(unittest.TestCase):
    def test_names_of_the_arguments(self):
        way = way_of(field=SPIKE, row=(1, 0, 1))
        self.assertEqual(way_shows(field=SPIKE, thing=way), ((1, 0, 1), depth_of(field=SPIKE, row=(1, 0, 1))))

    def answers(self, field):
        asked = list(rows_asked(field))[::7]
        return [(depth_of(field, row), way_of(field, row), way_shows(field, way_of(field, row))) for row in asked]

    def test_the_answers_stay(self):
        asked = copy.deepcopy(fields()[::2])
        forth = [self.answers(field) for field in asked]
        back = [self.answers(field) for field in reversed(asked)]
        self.assertEqual(forth, back[::-1])
        self.assertEqual(asked, fields()[::2])


if __name__ == "__main__":
    unittest.main()
