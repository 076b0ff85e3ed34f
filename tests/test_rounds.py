import copy
import unittest
from fractions import Fraction

from no_fields import refuses_what_is_no_field
from plain import (
    BOX, BROKEN_STRETCH, BROKEN_TRIANGLE, CROWDED, DOUBLED, FIELDS, HALF_BOX, LONG_SPIKE, NO_PLACE,
    NO_PLACE_OF_THREE, ONE_BROKEN_PLACE, ONE_PLACE, PINNED, SPIKE, STRETCH, TRIANGLE, TWICE, place_of, plain_corners,
    plain_corners_behind, plain_sum, point_of, points_kept, some_fields, two_row_cuts, whole_points,
)
from things import odd_things

from roundcuts.corners import broken, corners, tight
from roundcuts.errors import CutError, NoCorner
from roundcuts.rounds import corner_paper, paper_against, round_corners, round_papers
from roundcuts.sums import cut_towards, is_paper

HALF = Fraction(1, 2)
# Many least directions at each corner, and no corner whole.
WHEEL = ((30, 1, 151), (1, 30, 152), (-1, 30, 151), (-30, 1, 152),
         (-30, -1, 151), (-1, -30, 152), (1, -30, 151), (30, -1, 152))


def places(*points):
    return [place_of(x, y) for x, y in points]


def fields():
    return list(FIELDS.values()) + [WHEEL] + some_fields(60, 3, 21) + some_fields(40, 7, 22)


def is_cut(field, paper):
    """Whether it is a paper, by the words."""
    weights, (a, b, c) = paper
    total = plain_sum(field, weights)
    return total[:2] == (a, b) and c == total[2].__floor__() and all(top >= 0 for top, bottom in weights)


def breaks(row, place):
    (a, b, c), (x, y) = row, point_of(place)
    return a * x + b * y > c


class RoundPapers(unittest.TestCase):
    def test_each_is_a_paper(self):
        for field in fields():
            told = round_papers(field)
            self.assertIs(told.__class__, list)
            for paper in told:
                self.assertIs(is_paper(field, paper), True, (field, paper))
                self.assertTrue(is_cut(field, paper), (field, paper))

    def test_at_most_2000(self):
        for field in fields() + some_fields(40, 30, 23):
            self.assertLessEqual(len(round_papers(field)), 2000)
        self.assertGreater(len(round_papers(WHEEL)), 200)

    def test_what_they_leave(self):
        for field in fields():
            rows = [row for weights, row in round_papers(field)]
            self.assertEqual(plain_corners_behind(field, rows), round_corners(field), field)

    def test_all_two_row_cuts_leave_as_much(self):
        for field in fields() + some_fields(4, 30, 24):
            cuts = [(a, b, c) for (a, b), c in two_row_cuts(field).items()]
            self.assertEqual(plain_corners_behind(field, cuts), round_corners(field), field)

    def test_the_list_is_the_askers_own(self):
        told = round_papers(SPIKE)
        before = copy.deepcopy(told)
        told.clear()
        self.assertEqual(round_papers(SPIKE), before)
        self.assertNotEqual(before, [])

    def test_no_field(self):
        refuses_what_is_no_field(self, round_papers)


class RoundCorners(unittest.TestCase):
    def test_boxes(self):
        self.assertEqual(round_corners(HALF_BOX), places((0, -1), (1, -1), (1, 2), (0, 2)))
        self.assertEqual(round_corners(DOUBLED), places((0, 0), (2, 0), (2, 1), (0, 1)))

    def test_spikes(self):
        self.assertEqual(round_corners(SPIKE), places((1, 1), (1, 3)))
        # One round takes half a step off the top, and nothing else.
        self.assertEqual(round_corners(LONG_SPIKE), places((0, 0), (1, 0), (HALF, Fraction(19, 2))))

    def test_triangles(self):
        self.assertEqual(round_corners(BROKEN_TRIANGLE), places((1, 1), (2, 1), (1, 2)))

    def test_whole_corners_stay(self):
        for field in (BOX, TRIANGLE, TWICE, STRETCH, ONE_PLACE, PINNED):
            self.assertEqual(round_corners(field), corners(field))

    def test_nothing_is_left_before(self):
        for field in (NO_PLACE, NO_PLACE_OF_THREE):
            self.assertEqual(round_corners(field), [])

    def test_nothing_is_left_behind(self):
        for field in (ONE_BROKEN_PLACE, BROKEN_STRETCH, ((3, 0, 2), (-3, 0, -1), (0, 1, 4), (0, -1, 4)),
                      ((2, 2, 1), (-2, -2, -1), (1, -1, 5), (-1, 1, 5))):
            self.assertNotEqual(corners(field), [])
            self.assertEqual(round_corners(field), [])

    def test_a_stretch(self):
        self.assertEqual(round_corners(((0, 1, 2), (0, -1, -2), (2, 0, 7), (-3, 0, 1))), places((0, 2), (3, 2)))
        self.assertEqual(round_corners(((1, 2, 4), (-1, -2, -4), (1, 0, 3), (-1, 0, 1))), places((0, 2), (2, 1)))

    def test_one_place_behind(self):
        self.assertEqual(round_corners(((2, 0, 3), (-2, 0, -1), (0, 2, 3), (0, -2, -1))), places((1, 1)))

    def test_whole_places_stay(self):
        for field in fields():
            rows = list(field) + [row for weights, row in round_papers(field)]
            for x, y in whole_points(field):
                self.assertFalse([row for row in rows if breaks(row, place_of(x, y))], (field, x, y))

    def test_no_broken_corner_stays(self):
        for field in fields():
            behind = round_corners(field)
            self.assertFalse([place for place in broken(field) if place in behind], field)

    def test_what_is_left_was_left_before(self):
        for field in fields():
            for place in round_corners(field):
                self.assertFalse([row for row in field if breaks(row, place)], (field, place))

    def test_each_corner_keeps_the_least_cuts(self):
        asked = [(a, b) for a in range(-7, 8) for b in range(-7, 8) if (a, b) != (0, 0)] + [(1000, -999), (31, 1)]
        for field in [SPIKE, LONG_SPIKE, CROWDED, BROKEN_STRETCH] + some_fields(12, 9, 25):
            behind = round_corners(field)
            for a, b in asked if points_kept(field) else []:
                row = cut_towards(field, a, b)[1]
                self.assertFalse([place for place in behind if breaks(row, place)], (field, row))

    def test_in_the_order_of_corners(self):
        for field in fields():
            points = [point_of(place) for place in round_corners(field)]
            self.assertEqual(points[:1], sorted(points)[:1])
            self.assertEqual(len(set(points)), len(points))
            for at in range(len(points) if len(points) > 2 else 0):
                (a, b), (c, d), (e, f) = points[at - 2], points[at - 1], points[at]
                self.assertGreater((c - a) * (f - d) - (d - b) * (e - c), 0)

    def test_the_list_is_the_askers_own(self):
        told = round_corners(SPIKE)
        told.append(None)
        self.assertEqual(round_corners(SPIKE), places((1, 1), (1, 3)))

    def test_no_field(self):
        refuses_what_is_no_field(self, round_corners)


class PaperAgainst(unittest.TestCase):
    def against(self, field, place):
        paper = paper_against(field, place)
        self.assertIs(is_paper(field, paper), True, (field, paper))
        self.assertTrue(is_cut(field, paper), (field, paper))
        self.assertTrue(breaks(paper[1], place), (field, paper, place))

    def test_at_broken_corners(self):
        for field in fields():
            for place in broken(field):
                self.against(field, place)

    def test_at_places_that_do_not_keep_a_row(self):
        for field in fields():
            for x, y in ((100, 100), (-100, 0), (0, Fraction(1000, 7)), (13, -13), (Fraction(10 ** 29, 3), 1)):
                self.against(field, place_of(x, y))

    def test_hardly_beyond_a_row(self):
        step = Fraction(1, 10 ** 29)
        for x, y in ((4 + step, 0), (-step, 0), (0, 3 + step), (0, -step)):
            self.against(BOX, place_of(x, y))
        self.assertIsNone(paper_against(BOX, place_of(4 - step, 3 - step)))

    def test_hardly_beyond_a_cut(self):
        step = Fraction(1, 10 ** 29)
        self.assertIsNone(paper_against(HALF_BOX, place_of(1, 2)))
        self.against(HALF_BOX, place_of(1 + step, 2))
        self.against(HALF_BOX, place_of(1, 2 + step))
        self.against(HALF_BOX, place_of(-step, 0))

    def test_at_whole_places_that_are_left(self):
        for field in fields():
            for x, y in whole_points(field)[:20]:
                self.assertIsNone(paper_against(field, place_of(x, y)), (field, x, y))

    def test_at_corners_of_what_a_round_leaves(self):
        for field in fields():
            behind = round_corners(field)
            for place in behind:
                self.assertIsNone(paper_against(field, place), (field, place))
            for place in corners(field):
                if place not in behind:
                    self.against(field, place)

    def test_inside_of_what_a_round_leaves(self):
        for field in fields():
            points = [point_of(place) for place in round_corners(field)]
            if points:
                middle = place_of(sum(x for x, y in points) / len(points), sum(y for x, y in points) / len(points))
                self.assertIsNone(paper_against(field, middle), field)

    def test_where_nothing_is_left(self):
        for field in (NO_PLACE, NO_PLACE_OF_THREE):
            for x, y in ((0, 0), (1, 0), (-1, 0), (HALF, HALF), (100, -100)):
                self.against(field, place_of(x, y))

    def test_where_a_round_leaves_nothing(self):
        for x, y in ((HALF, 0), (HALF, 1), (HALF, HALF), (0, 0), (1, 1)):
            self.against(BROKEN_STRETCH, place_of(x, y))

    def test_by_all_two_row_cuts(self):
        grid = [(Fraction(x, 3), Fraction(y, 2)) for x in range(-12, 13, 2) for y in range(-8, 9, 2)]
        grid += [(x + Fraction(1, 3), y + HALF) for x, y in grid[::2]]
        for field in [SPIKE, HALF_BOX, CROWDED, BROKEN_TRIANGLE] + some_fields(8, 4, 26):
            rows = list(field) + [(a, b, c) for (a, b), c in two_row_cuts(field).items()]
            for x, y in grid:
                if any(breaks(row, place_of(x, y)) for row in rows):
                    self.against(field, place_of(x, y))
                else:
                    self.assertIsNone(paper_against(field, place_of(x, y)))

    def test_no_field(self):
        for place in [place_of(0, 0)] + odd_things()[::6]:
            refuses_what_is_no_field(self, lambda thing: paper_against(thing, place))


class CornerPaper(unittest.TestCase):
    def test_each_broken_corner(self):
        for field in fields() + some_fields(40, 30, 27):
            for number, place in enumerate(broken(field)):
                self.cut_off(field, place, corner_paper(field, number))

    def cut_off(self, field, place, paper):
        weights, row = paper
        self.assertIs(is_paper(field, paper), True, (field, paper))
        self.assertTrue(is_cut(field, paper), (field, paper))
        self.assertTrue(breaks(row, place), (field, paper, place))
        used = [number for number, weight in enumerate(weights) if weight != (0, 1)]
        self.assertIn(len(used), (1, 2))
        self.assertTrue(set(used) <= set(tight(field, place)), (field, paper, place))

    def refused(self, field, number):
        with self.assertRaises(CutError) as caught:
            corner_paper(field, number)
        self.assertIs(caught.exception.__class__, NoCorner, number)

    def test_other_numbers(self):
        for field in fields():
            many = len(broken(field))
            for number in (-1, -2, -many, many, many + 1, 10 ** 29, -10 ** 29):
                if not 0 <= number < many:
                    self.refused(field, number)

    def test_other_things(self):
        self.assertEqual(len(broken(HALF_BOX)), 4)
        for thing in odd_things() + [True, False, None, "0", "1", [], [0], (0,), (0, 1), (1, 1), {0: 0}, {}]:
            before = copy.deepcopy(thing)
            self.refused(HALF_BOX, thing)
            self.assertEqual(thing, before)

    def test_no_broken_corner(self):
        for field in (BOX, TRIANGLE, STRETCH, ONE_PLACE, NO_PLACE, NO_PLACE_OF_THREE):
            for number in (0, 1, -1, None, True):
                self.refused(field, number)

    def test_no_field(self):
        for number in [0, 1, -1] + odd_things()[::6]:
            refuses_what_is_no_field(self, lambda thing: corner_paper(thing, number))


class AskedAgain(unittest.TestCase):
    def test_names_of_the_arguments(self):
        place = plain_corners(SPIKE)[0]
        self.assertEqual(round_papers(field=SPIKE), round_papers(SPIKE))
        self.assertEqual(round_corners(field=SPIKE), round_corners(SPIKE))
        self.assertEqual(paper_against(field=SPIKE, place=place), paper_against(SPIKE, place))
        self.assertEqual(corner_paper(field=SPIKE, number=0), corner_paper(SPIKE, 0))

    def answers(self, field):
        return [round_papers(field), round_corners(field), paper_against(field, place_of(HALF, HALF)),
                [corner_paper(field, number) for number in range(len(broken(field)))]]

    def test_the_answers_stay(self):
        asked = fields()
        forth = [self.answers(field) for field in asked]
        back = [self.answers(field) for field in reversed(asked)]
        self.assertEqual(forth, back[::-1])
        self.assertEqual(asked, fields())


if __name__ == "__main__":
    unittest.main()
