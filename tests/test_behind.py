import copy
import functools
import unittest
from fractions import Fraction

from no_fields import refuses_what_is_no_field
from plain import (
    BETWEEN_LINES, BOX, BROKEN_STRETCH, BROKEN_TRIANGLE, DEEP_FIELDS, DOUBLED, EMPTY_TRIANGLE, FIELDS, HALF_BOX,
    LONG_SPIKE, LYING_SPIKE, NO_PLACE, NO_PLACE_OF_THREE, ONE_BROKEN_PLACE, ONE_PLACE, PINNED, SLANT_SQUARE, SPIKE,
    STRETCH, TALL_SPIKE, TRIANGLE, TWICE, is_plain_field, place_of, plain_moved, plain_rounds, plain_turned, point_of,
    some_fields, whole_points,
)
from refusals import refused
from things import odd_things

from roundcuts.behind import all_rounds, behind, hull, lost_behind, whole_places
from roundcuts.corners import broken, corners
from roundcuts.errors import NoNumber
from roundcuts.rounds import paper_against, round_corners

HALF = Fraction(1, 2)


def places(*points):
    return [place_of(x, y) for x, y in points]


@functools.cache
def fields():
    deep = [field for field in DEEP_FIELDS.values() if field != TALL_SPIKE]
    return tuple(list(FIELDS.values()) + deep + some_fields(60, 3, 31) + some_fields(40, 7, 32) + some_fields(6, 12, 33))


@functools.cache
def wanted_rounds(field):
    return plain_rounds(field)


def is_broken(place):
    return any(bottom != 1 for top, bottom in place)


def middle(one, other):
    (x, y), (u, v) = point_of(one), point_of(other)
    return place_of((x + u) / 2, (y + v) / 2)


class Behind(unittest.TestCase):
    def test_no_round(self):
        for field in fields():
            self.assertEqual(behind(field, 0), corners(field))

    def test_one_round(self):
        for field in fields() + (TALL_SPIKE,):
            self.assertEqual(behind(field, 1), round_corners(field), field)

    def test_boxes(self):
        self.assertEqual(behind(HALF_BOX, 0), places((-HALF, -3 * HALF), (3 * HALF, -3 * HALF),
                                                     (3 * HALF, 5 * HALF), (-HALF, 5 * HALF)))
        for many in (1, 2, 3, 40):
            self.assertEqual(behind(HALF_BOX, many), places((0, -1), (1, -1), (1, 2), (0, 2)))
            self.assertEqual(behind(DOUBLED, many), places((0, 0), (2, 0), (2, 1), (0, 1)))

    def test_spikes(self):
        # Each round takes half a step off the top, until nothing stands on the foot.
        for many in range(20):
            self.assertEqual(behind(LONG_SPIKE, many), places((0, 0), (1, 0), (HALF, (20 - many) * HALF)))
        for many in (20, 21, 30, 40):
            self.assertEqual(behind(LONG_SPIKE, many), places((0, 0), (1, 0)))

    def test_a_tall_spike(self):
        for many in range(1, 30):
            told = [point_of(place) for place in behind(TALL_SPIKE, many)]
            self.assertEqual(max(told, key=lambda point: point[1]), (HALF, 12 - many * HALF))
        for many in (30, 31, 40):
            self.assertEqual(behind(TALL_SPIKE, many), places((0, -12), (1, -12), (1, -3), (0, -3)))

    def test_triangles(self):
        self.assertEqual(behind(BROKEN_TRIANGLE, 1), places((1, 1), (2, 1), (1, 2)))
        self.assertEqual(behind(EMPTY_TRIANGLE, 1), wanted_rounds(EMPTY_TRIANGLE)[1])
        self.assertNotEqual(behind(EMPTY_TRIANGLE, 1), [])
        self.assertEqual(behind(EMPTY_TRIANGLE, 2), [])

    def test_whole_corners_stay(self):
        for field in (BOX, TRIANGLE, TWICE, STRETCH, ONE_PLACE, PINNED):
            for many in (0, 1, 2, 40):
                self.assertEqual(behind(field, many), corners(field))

    def test_nothing_stays_nothing(self):
        for field in (NO_PLACE, NO_PLACE_OF_THREE):
            for many in (0, 1, 2, 40):
                self.assertEqual(behind(field, many), [])

    def test_rounds_that_end_in_nothing(self):
        for field in (ONE_BROKEN_PLACE, BROKEN_STRETCH, BETWEEN_LINES):
            self.assertNotEqual(behind(field, 0), [])
            for many in (1, 2, 40):
                self.assertEqual(behind(field, many), [])
        self.assertEqual(behind(SLANT_SQUARE, 1), places((HALF, HALF)))
        for many in (2, 3, 40):
            self.assertEqual(behind(SLANT_SQUARE, many), [])

    def test_by_all_rows(self):
        for field in fields():
            lists = wanted_rounds(field)
            for many in list(range(len(lists) + 2)) + [39, 40]:
                self.assertEqual(behind(field, many), lists[min(many, len(lists) - 1)], (field, many))

    def test_rows_beyond_the_greatest_leave_as_much(self):
        for field in (SPIKE, LYING_SPIKE, SLANT_SQUARE, EMPTY_TRIANGLE, BROKEN_TRIANGLE):
            self.assertEqual(plain_rounds(field, 4), all_rounds(field))

    def test_moved_and_turned(self):
        turns = ((0, -1, 1, 0), (-1, 0, 0, -1), (0, 1, 1, 0), (1, 1, 0, 1), (1, 0, -1, 1))
        tried = 0
        for field in (HALF_BOX, SPIKE, LONG_SPIKE, LYING_SPIKE, BROKEN_TRIANGLE, SLANT_SQUARE, EMPTY_TRIANGLE):
            for other in [plain_turned(field, turn) for turn in turns] + [plain_moved(field, -3, 2)]:
                if is_plain_field(other):
                    tried += 1
                    lists = wanted_rounds(other)
                    for many in (0, 1, 2, 3, 40):
                        self.assertEqual(behind(other, many), lists[min(many, len(lists) - 1)], (other, many))
        self.assertGreater(tried, 30)

    def test_in_order(self):
        for field in fields():
            for many in (1, 2, 40):
                points = [point_of(place) for place in behind(field, many)]
                self.assertEqual(points[:1], sorted(points)[:1])
                self.assertEqual(len(set(points)), len(points))
                for at in range(len(points) if len(points) > 2 else 0):
                    (a, b), (c, d), (e, f) = points[at - 2], points[at - 1], points[at]
                    self.assertGreater((c - a) * (f - d) - (d - b) * (e - c), 0)

    def test_no_number(self):
        wrong = [-1, 41, -40, 42, 10 ** 29, -10 ** 29, True, False, None, "1", "", (1, 1), (1, 2), [], [1], {}, {1: 1}]
        for many in wrong + odd_things():
            for field in (SPIKE, BOX, NO_PLACE):
                refused(self, NoNumber, behind, field, many)

    def test_no_field(self):
        for many in [0, 1, 40, -1, 41] + odd_things()[::6]:
            refuses_what_is_no_field(self, lambda thing: behind(thing, many))

    def test_the_list_is_the_askers_own(self):
        for many in (0, 1, 2):
            told = behind(SLANT_SQUARE, many)
            before = copy.deepcopy(told)
            told.append(None)
            self.assertEqual(behind(SLANT_SQUARE, many), before)


class AllRounds(unittest.TestCase):
    def test_by_all_rows(self):
        for field in fields():
            self.assertEqual(all_rounds(field), wanted_rounds(field), field)

    def test_each_is_what_behind_tells(self):
        for field in fields() + (TALL_SPIKE,):
            lists = all_rounds(field)
            self.assertIs(lists.__class__, list)
            for many in (range(len(lists)) if len(lists) < 10 else (0, 1, len(lists) - 1)):
                self.assertIs(lists[many].__class__, list)
                self.assertEqual(lists[many], behind(field, many))

    def test_first_and_last(self):
        for field in fields() + (TALL_SPIKE,):
            lists = all_rounds(field)
            self.assertEqual(lists[0], corners(field))
            self.assertEqual(lists[-1], hull(field), field)
            self.assertFalse([place for place in lists[-1] if is_broken(place)])
            for told in lists[:-1]:
                self.assertTrue([place for place in told if is_broken(place)], field)

    def test_how_many_are_wanted(self):
        for field, many in ((BOX, 0), (HALF_BOX, 1), (SPIKE, 1), (LONG_SPIKE, 20), (TALL_SPIKE, 30), (LYING_SPIKE, 4),
                            (SLANT_SQUARE, 2), (EMPTY_TRIANGLE, 2), (BETWEEN_LINES, 1), (NO_PLACE, 0)):
            self.assertEqual(len(all_rounds(field)) - 1, many)

    def test_all_corners_whole(self):
        for field in (BOX, TRIANGLE, TWICE, STRETCH, ONE_PLACE, PINNED):
            self.assertEqual(all_rounds(field), [corners(field)])

    def test_nothing_at_once(self):
        self.assertEqual(all_rounds(NO_PLACE), [[]])
        self.assertEqual(all_rounds(NO_PLACE_OF_THREE), [[]])

    def test_nothing_in_the_end(self):
        self.assertEqual(all_rounds(BROKEN_STRETCH), [corners(BROKEN_STRETCH), []])
        self.assertEqual(all_rounds(SLANT_SQUARE), [corners(SLANT_SQUARE), places((HALF, HALF)), []])

    def test_broken_corners_go(self):
        for field in fields():
            lists = all_rounds(field)
            for told, further in zip(lists, lists[1:]):
                self.assertFalse([place for place in told if is_broken(place) and place in further], field)
                self.assertFalse([place for place in told if not is_broken(place) and place not in further], field)

    def test_no_two_lists_are_one(self):
        for field in (LONG_SPIKE, SLANT_SQUARE, BOX, NO_PLACE):
            lists = all_rounds(field)
            self.assertEqual(len({id(told) for told in lists}), len(lists))
            before = copy.deepcopy(lists)
            for told in lists:
                told.clear()
            lists.clear()
            self.assertEqual(all_rounds(field), before)

    def test_no_field(self):
        refuses_what_is_no_field(self, all_rounds)


class WholePlaces(unittest.TestCase):
    def test_none_one_two_several_many(self):
        for field in (NO_PLACE, NO_PLACE_OF_THREE, ONE_BROKEN_PLACE, BROKEN_STRETCH, BETWEEN_LINES, SLANT_SQUARE):
            self.assertEqual(whole_places(field), [])
        self.assertEqual(whole_places(ONE_PLACE), places((2, -3)))
        self.assertEqual(whole_places(LONG_SPIKE), places((0, 0), (1, 0)))
        self.assertEqual(whole_places(STRETCH), places((0, 3), (1, 2), (2, 1), (3, 0)))
        self.assertEqual(whole_places(BROKEN_TRIANGLE), places((1, 1), (1, 2), (2, 1)))
        self.assertEqual(whole_places(HALF_BOX), places((0, -1), (0, 0), (0, 1), (0, 2), (1, -1), (1, 0), (1, 1), (1, 2)))

    def test_out_to_twelve(self):
        wide = ((1, 0, 12), (-1, 0, 12), (0, 1, 12), (0, -1, 12))
        told = whole_places(wide)
        self.assertEqual(len(told), 625)
        self.assertEqual((told[0], told[-1]), (place_of(-12, -12), place_of(12, 12)))

    def test_gone_through(self):
        for field in fields() + (TALL_SPIKE,):
            told = whole_places(field)
            self.assertIs(told.__class__, list)
            self.assertEqual(told, places(*sorted(whole_points(field))), field)

    def test_the_list_is_the_askers_own(self):
        told = whole_places(SPIKE)
        before = copy.deepcopy(told)
        told.clear()
        self.assertEqual(whole_places(SPIKE), before)
        self.assertNotEqual(before, [])

    def test_no_field(self):
        refuses_what_is_no_field(self, whole_places)


def lies_between(point, one, other):
    (x, y), (a, b), (c, d) = point, one, other
    on_line = (c - a) * (y - b) == (d - b) * (x - a)
    return on_line and (x - a) * (x - c) + (y - b) * (y - d) < 0


class Hull(unittest.TestCase):
    def test_none_one_two(self):
        for field in (NO_PLACE, NO_PLACE_OF_THREE, ONE_BROKEN_PLACE, BROKEN_STRETCH, BETWEEN_LINES, SLANT_SQUARE):
            self.assertEqual(hull(field), [])
        self.assertEqual(hull(ONE_PLACE), places((2, -3)))
        self.assertEqual(hull(LONG_SPIKE), places((0, 0), (1, 0)))

    def test_several_on_a_line(self):
        self.assertEqual(hull(STRETCH), places((0, 3), (3, 0)))
        self.assertEqual(hull(((1, 0, 2), (-1, 0, -2), (0, 2, 7), (0, -2, 3))), places((2, -1), (2, 3)))
        self.assertEqual(hull(((0, 1, -2), (0, -1, 2), (2, 0, 7), (-2, 0, 3))), places((-1, -2), (3, -2)))

    def test_many(self):
        self.assertEqual(hull(BOX), places((0, 0), (4, 0), (4, 3), (0, 3)))
        self.assertEqual(hull(BROKEN_TRIANGLE), places((1, 1), (2, 1), (1, 2)))
        self.assertEqual(hull(LYING_SPIKE), places((-4, 0), (3, 0), (-2, 1), (-3, 1)))

    def test_by_the_words(self):
        for field in fields() + (TALL_SPIKE,):
            points = whole_points(field)
            told = [point_of(place) for place in hull(field)]
            self.assertTrue(set(told) <= set(points))
            for point in told:
                self.assertFalse([(one, other) for one in points for other in told if lies_between(point, one, other)])
            for at in range(len(told) if len(told) > 2 else 0):
                (a, b), (c, d) = told[at - 1], told[at]
                for x, y in points:
                    self.assertGreaterEqual((c - a) * (y - b) - (d - b) * (x - a), 0, field)
            self.assertEqual(bool(told), bool(points))
            self.assertEqual(told[:1], sorted(told)[:1])
            if len(told) == 2:
                self.assertFalse([p for p in points if p not in told and not lies_between(p, *told)])

    def test_the_list_is_the_askers_own(self):
        told = hull(BOX)
        told.reverse()
        self.assertEqual(hull(BOX), corners(BOX))

    def test_no_field(self):
        refuses_what_is_no_field(self, hull)


class LostBehind(unittest.TestCase):
    def test_places_that_do_not_keep_a_row(self):
        for field in fields():
            for x, y in ((100, 100), (-100, 0), (0, Fraction(1000, 7)), (13, -13), (Fraction(10 ** 29, 3), 1)):
                self.assertEqual(lost_behind(field, place_of(x, y)), 0)
        step = Fraction(1, 10 ** 29)
        for x, y in ((4 + step, 0), (-step, 0), (0, 3 + step), (0, -step)):
            self.assertEqual(lost_behind(BOX, place_of(x, y)), 0)
        self.assertIsNone(lost_behind(BOX, place_of(4 - step, 3 - step)))

    def test_down_a_spike(self):
        for many in range(20):
            top = (20 - many) * HALF
            self.assertEqual(lost_behind(LONG_SPIKE, place_of(HALF, top)), many + 1)
            self.assertEqual(lost_behind(LONG_SPIKE, place_of(HALF, top + Fraction(1, 1000))), many)
        self.assertIsNone(lost_behind(LONG_SPIKE, place_of(HALF, 0)))
        self.assertEqual(lost_behind(LONG_SPIKE, place_of(HALF, Fraction(1, 10 ** 29))), 20)

    def test_broken_corners_of_each_list(self):
        for field in fields():
            for many, told in enumerate(wanted_rounds(field)):
                for place in told:
                    self.assertEqual(lost_behind(field, place), many + 1 if is_broken(place) else None, (field, place))

    def test_between_two_corners(self):
        for field in fields():
            lists = wanted_rounds(field)
            for many, told in enumerate(lists):
                for one in told[:3]:
                    place = middle(one, told[-1])
                    lost = lost_behind(field, place)
                    self.assertEqual(lost, self.reckoned(lists, place), (field, place))
                    self.assertTrue(lost is None or lost > many)

    def reckoned(self, lists, place):
        for many, told in enumerate(lists):
            if not self.lies_in(told, place):
                return many
        return None

    def lies_in(self, told, place):
        points, (x, y) = [point_of(corner) for corner in told], point_of(place)
        if len(points) < 3:
            return (x, y) in points or len(points) == 2 and lies_between((x, y), *points)
        return all((c - a) * (y - b) - (d - b) * (x - a) >= 0
                   for (a, b), (c, d) in zip(points, points[1:] + points[:1]))

    def test_on_a_grid(self):
        grid = [(Fraction(x, 3), Fraction(y, 2)) for x in range(-9, 16, 2) for y in range(-5, 8, 2)]
        for field in (SPIKE, LYING_SPIKE, SLANT_SQUARE, EMPTY_TRIANGLE, BROKEN_STRETCH, NO_PLACE):
            for x, y in grid:
                self.assertEqual(lost_behind(field, place_of(x, y)), self.reckoned(wanted_rounds(field), place_of(x, y)))

    def test_behind_one_round_a_paper_is_against_it(self):
        for field in fields()[::3]:
            for place in corners(field):
                lost = lost_behind(field, place)
                self.assertEqual(paper_against(field, place) is not None, lost is not None and lost <= 1)

    def test_whole_places_and_places_within_the_hull(self):
        for field in fields():
            for x, y in whole_points(field)[:10]:
                self.assertIsNone(lost_behind(field, place_of(x, y)))
            told = hull(field)
            for one, other in zip(told, told[1:]):
                self.assertIsNone(lost_behind(field, middle(one, other)), field)

    def test_where_nothing_is_left(self):
        for field in (NO_PLACE, NO_PLACE_OF_THREE):
            for x, y in ((0, 0), (1, 0), (-1, 0), (HALF, HALF)):
                self.assertEqual(lost_behind(field, place_of(x, y)), 0)

    def test_no_field(self):
        for place in [place_of(0, 0)] + odd_things()[::6]:
            refuses_what_is_no_field(self, lambda thing: lost_behind(thing, place))


class AskedAgain(unittest.TestCase):
    def test_names_of_the_arguments(self):
        self.assertEqual(behind(field=SPIKE, many=1), behind(SPIKE, 1))
        self.assertEqual(all_rounds(field=SPIKE), all_rounds(SPIKE))
        self.assertEqual(whole_places(field=SPIKE), whole_places(SPIKE))
        self.assertEqual(hull(field=SPIKE), hull(SPIKE))
        self.assertEqual(lost_behind(field=SPIKE, place=broken(SPIKE)[0]), 1)

    def answers(self, field):
        return [behind(field, 2), all_rounds(field), whole_places(field), hull(field),
                lost_behind(field, place_of(HALF, HALF))]

    def test_the_answers_stay(self):
        asked = copy.deepcopy(fields())
        forth = [self.answers(field) for field in asked]
        back = [self.answers(field) for field in reversed(asked)]
        self.assertEqual(forth, back[::-1])
        self.assertEqual(asked, fields())


if __name__ == "__main__":
    unittest.main()
