"""What is promised over the whole program: of all functions that are handed a field, and of all that is told."""

import copy
import unittest
from fractions import Fraction

from no_fields import no_fields
from plain import (
    BOX, BROKEN_STRETCH, DEEP_FIELDS, FIELDS, HALF_BOX, LONG_SPIKE, NO_PLACE, SLANT_SQUARE, SPIKE, TRIANGLE, place_of,
    plain_sum, point_of, some_fields, whole_points,
)
from refusals import refused
from things import odd_things

from roundcuts.behind import all_rounds, behind, hull, lost_behind, whole_places
from roundcuts.corners import broken, corners, greatest, holds, tight
from roundcuts.desk import Desk
from roundcuts.errors import CutError, NoCorner, NoField, NoLine, NoNumber, NoText, NoTurn, NoWeights
from roundcuts.fields import is_field
from roundcuts.fractions import is_fraction
from roundcuts.moves import is_within, led_to, moved, side, turn_back, turned
from roundcuts.nones import no_whole_place, none_behind, none_way, nothing_weights, shows_nothing
from roundcuts.rounds import corner_paper, paper_against, round_corners, round_papers
from roundcuts.rows import is_row
from roundcuts.sums import cut_by, cut_towards, is_paper, sum_by
from roundcuts.texts import field_text, places_text, read_field
from roundcuts.turns import between, parts
from roundcuts.ways import depth_of, way_of, way_shows

HALF = Fraction(1, 2)
PLACE = place_of(HALF, HALF)
ROW = (1, 2, 3)
TURN = (0, 1, 1, 0)


def weights_of(field):
    return tuple((2, 1) for row in field)


def way_behind(field):
    return [(weights_of(field), tuple(int(number) for number in plain_sum(field, weights_of(field))))]


# Each function that is handed a field, with what may be handed in behind it.
ASKED = {
    corners: lambda field: (), tight: lambda field: (PLACE,), broken: lambda field: (), greatest: lambda field: (2, -3),
    holds: lambda field: (ROW,), sum_by: lambda field: (weights_of(field),), cut_by: lambda field: (weights_of(field),),
    is_paper: lambda field: ((weights_of(field), ROW),), cut_towards: lambda field: (2, -3), round_papers: lambda field: (),
    round_corners: lambda field: (), paper_against: lambda field: (PLACE,), corner_paper: lambda field: (0,),
    behind: lambda field: (1,), all_rounds: lambda field: (), whole_places: lambda field: (), hull: lambda field: (),
    lost_behind: lambda field: (PLACE,), depth_of: lambda field: (ROW,), way_shows: lambda field: (way_behind(field),),
    way_of: lambda field: (ROW,), nothing_weights: lambda field: (), shows_nothing: lambda field: (weights_of(field),),
    no_whole_place: lambda field: (), none_behind: lambda field: (), none_way: lambda field: (),
    moved: lambda field: (1, -1), turned: lambda field: (TURN,), side: lambda field: (1,), is_within: lambda field: (BOX,),
    field_text: lambda field: (),
}


def fields():
    return list(FIELDS.values()) + list(DEEP_FIELDS.values()) + some_fields(15, 4, 91)


def faulty(field):
    """The field with something that is no number, or is too great, or a truth, at each number of each row in turn."""
    for at, row in enumerate(field):
        for part in range(3):
            for wrong in (True, False, None, "1", (1, 1), [1], 1001, -1001, 10 ** 29):
                other = row[:part] + (wrong,) + row[part + 1:]
                yield field[:at] + (other,) + field[at + 1:]
        for other in (list(row), row[:2], row + (0,), (0, 0, row[2]), None, True, ()):
            yield field[:at] + (other,) + field[at + 1:]
    yield list(field)
    yield field[:2]
    yield field * 5


def lists_in(told):
    """All lists within something, itself among them."""
    if isinstance(told, list):
        yield told
    if isinstance(told, (list, tuple)):
        for part in told:
            yield from lists_in(part)


def answer(ask, *asked):
    try:
        return ask(*asked)
    except CutError as refusal:
        return refusal.__class__


class EachFunction(unittest.TestCase):
    def test_what_is_no_field(self):
        for ask, behind_it in ASKED.items():
            for thing in no_fields():
                refused(self, NoField, ask, thing, *behind_it(TRIANGLE))

    def test_what_is_no_field_at_any_row_and_number(self):
        for ask, behind_it in ASKED.items():
            for thing in list(faulty(TRIANGLE)) + list(faulty(BROKEN_STRETCH)):
                self.assertIs(is_field(thing), False, thing)
                refused(self, NoField, ask, thing, *behind_it(TRIANGLE))

    def test_no_field_goes_ahead_of_all_else(self):
        for ask, behind_it in ASKED.items():
            many = len(behind_it(TRIANGLE))
            for wrong in (None, True, [], "x", -1, 10 ** 29, {}) if many else ():
                for thing in (None, True, BOX[:3], list(BOX), BOX[:3] + ((0, True, 5),), ()):
                    refused(self, NoField, ask, thing, *(wrong,) * many)

    def test_the_second_of_two_fields(self):
        for thing in no_fields() + list(faulty(BOX)):
            refused(self, NoField, is_within, BOX, thing)
            refused(self, NoField, is_within, NO_PLACE, thing)

    def test_what_was_handed_in_is_as_it_was(self):
        for ask, behind_it in ASKED.items():
            for field in fields():
                asked = (field,) + behind_it(field)
                before = copy.deepcopy(asked)
                answer(ask, *asked)
                self.assertEqual(asked, before, ask)

    def test_told_lists_are_the_askers_own(self):
        told_lists = 0
        for ask, behind_it in ASKED.items():
            for field in fields():
                asked = (field,) + behind_it(field)
                told = answer(ask, *asked)
                before = copy.deepcopy(told)
                found = list(lists_in(told))
                self.assertEqual(len({id(part) for part in found}), len(found), ask)
                self.assertFalse({id(part) for part in found} & {id(part) for part in lists_in(asked)}, ask)
                for part in found:
                    part.append(None)
                    part.reverse()
                self.assertEqual(answer(ask, *asked), before, ask)
                told_lists += len(found)
        self.assertGreater(told_lists, 400)

    def test_two_answers_are_two(self):
        for ask, behind_it in ASKED.items():
            for field in (SPIKE, LONG_SPIKE, SLANT_SQUARE, NO_PLACE):
                one, other = answer(ask, field, *behind_it(field)), answer(ask, field, *behind_it(field))
                self.assertEqual(one, other)
                self.assertFalse({id(part) for part in lists_in(one)} & {id(part) for part in lists_in(other)}, ask)

    def test_least_directions_are_the_askers_own(self):
        told = between((2, 1), (-1, 3))
        told.clear()
        self.assertEqual(between((2, 1), (-1, 3)), [(2, 1), (1, 1), (0, 1), (-1, 3)])


class HandedIn(unittest.TestCase):
    def test_a_way_that_is_changed_later(self):
        way = way_of(LONG_SPIKE, (0, 1, 5))
        self.assertEqual(way_shows(LONG_SPIKE, way), ((0, 1, 5), 10))
        way.pop()
        self.assertNotEqual(way_shows(LONG_SPIKE, way), ((0, 1, 5), 10))
        way.clear()
        self.assertIsNone(way_shows(LONG_SPIKE, way))

    def test_places_that_are_changed_later(self):
        told = corners(SPIKE)
        text = places_text(told)
        told.clear()
        self.assertEqual(places_text(corners(SPIKE)), text)
        self.assertEqual(places_text(told), "none")

    def test_what_was_told_may_be_handed_in(self):
        for field in fields():
            for place in corners(field) + broken(field):
                self.assertTrue(tight(field, place))
            for paper in round_papers(field):
                self.assertIs(is_paper(field, paper), True)
                self.assertEqual(cut_by(field, paper[0]), paper[1])
                self.assertLessEqual(depth_of(field, paper[1]), 1)
            for told in all_rounds(field):
                for place in told:
                    lost_behind(field, place)
                    led_to(TURN, place)
            self.assertEqual(read_field(field_text(field)), field)


class Truths(unittest.TestCase):
    def test_in_rows_fractions_and_fields(self):
        for truth in (True, False):
            for part in range(3):
                row = list(ROW)
                row[part] = truth
                self.assertIs(is_row(tuple(row)), False)
                self.assertIs(is_field((tuple(row),) + TRIANGLE), False)
        for thing in ((True, 1), (1, True), (False, 1), (True, True), (0, True)):
            self.assertIs(is_fraction(thing), False)

    def test_in_weights_papers_and_ways(self):
        for weight in ((True, 1), (1, True), (False, 1), (0, True), True, False):
            weights = ((1, 1), (1, 1), weight)
            refused(self, NoWeights, sum_by, TRIANGLE, weights)
            refused(self, NoWeights, cut_by, TRIANGLE, weights)
            self.assertIs(is_paper(TRIANGLE, (weights, (-1, -1, 0))), False)
            self.assertIs(is_paper(TRIANGLE, (weights, (0, 0, 5))), False)
            self.assertIsNone(way_shows(TRIANGLE, [(weights, (-1, -1, 0))]))
            self.assertIsNone(way_shows(TRIANGLE, [(weights, (0, 0, 5))]))
            self.assertIs(shows_nothing(NO_PLACE, ((1, 1), (1, 1), weight, (0, 1))), False)
        whole = ((1, 1), (0, 1), (1, 1))
        for row in ((0, True, 5), (False, 1, 5)):
            self.assertIs(is_paper(TRIANGLE, (whole, row)), False)
            self.assertIsNone(way_shows(TRIANGLE, [(whole, row)]))
        for c in (True, False):
            unit = ((-1, 0, 0), (0, -1, 0), (1, 1, int(c)))
            self.assertIs(is_paper(unit, (((0, 1), (0, 1), (1, 1)), (1, 1, int(c)))), True)
            self.assertIs(is_paper(unit, (((0, 1), (0, 1), (1, 1)), (1, 1, c))), False)
            self.assertIsNone(way_shows(unit, [(((0, 1), (0, 1), (1, 1)), (1, 1, c))]))

    def test_in_directions(self):
        for thing in ((True, 1), (1, True), (1, False), (False, 1), True):
            self.assertIsNone(parts((1, 0), (0, 1), thing))

    def test_as_numbers(self):
        for truth in (True, False):
            refused(self, NoNumber, behind, SPIKE, truth)
            refused(self, NoCorner, corner_paper, SPIKE, truth)
            refused(self, NoNumber, side, SPIKE, truth)
            refused(self, NoNumber, moved, SPIKE, truth, 0)
            refused(self, NoNumber, moved, SPIKE, 0, truth)
            refused(self, NoText, read_field, truth)
            refused(self, NoLine, Desk().say, truth)
            for at in range(4):
                turn = [1, 0, 0, 1]
                turn[at] = truth
                refused(self, NoTurn, turn_back, tuple(turn))
                refused(self, NoTurn, led_to, tuple(turn), PLACE)
                refused(self, NoTurn, turned, SPIKE, tuple(turn))

    def test_no_truth_is_told_in_place_of_a_number(self):
        for ask, behind_it in ASKED.items():
            for field in (SPIKE, HALF_BOX, SLANT_SQUARE, NO_PLACE):
                told = answer(ask, field, *behind_it(field))
                for part in self.numbers_in(told) if isinstance(told, (list, tuple)) else ():
                    self.assertIs(part.__class__, int, (ask, field))

    def numbers_in(self, told):
        for part in told:
            if isinstance(part, (list, tuple)):
                yield from self.numbers_in(part)
            else:
                yield part


class Refusals(unittest.TestCase):
    def test_the_one_told_first_goes_first(self):
        eight = BOX + BOX
        for refusal, ask, asked in (
                (NoField, behind, (None, None)), (NoField, moved, (None, None, None)), (NoNumber, moved, (BOX, 25, 0)),
                (NoNumber, moved, (BOX, 24, None)), (NoField, moved, (BOX, 24, 0)), (NoField, turned, (None, None)),
                (NoTurn, turned, (BOX, None)), (NoField, turned, (BOX, (1, 30, 0, 1))), (NoNumber, side, (eight, 8)),
                (NoField, side, (eight, 7)), (NoField, side, (None, None)), (NoField, is_within, (None, None)),
                (NoField, is_within, (BOX, None)), (NoField, corner_paper, (None, None)), (NoField, sum_by, (None, None)),
                (NoField, cut_by, (None, None)), (NoWeights, cut_by, (BOX, None))):
            refused(self, refusal, ask, *asked)

    def test_of_anything(self):
        for thing in odd_things():
            self.assertIs(is_row(thing), False)
            self.assertIs(is_field(thing), False)
            self.assertIs(is_paper(BOX, thing), False)
            self.assertIs(shows_nothing(BOX, thing), False)
            self.assertIsNone(way_shows(BOX, thing))
            self.assertIs(answer(read_field, thing), NoText)
            self.assertIs(answer(Desk().say, thing), NoLine)


class ThePromise(unittest.TestCase):
    def test_whole_places_keep_all_that_is_shown(self):
        for field in fields():
            shown = [row for weights, row in round_papers(field)]
            for a, b in ((1, 0), (-2, 3), (7, -5), (-1, -1)):
                for c in (-3, 0, 2, 11):
                    shown += [row for weights, row in way_of(field, (a, b, c)) or []]
            for x, y in whole_points(field):
                self.assertFalse([(a, b, c) for a, b, c in shown if a * x + b * y > c], field)

    def test_each_broken_corner_is_cut_off(self):
        for field in fields():
            for number, place in enumerate(broken(field)):
                (a, b, c), (x, y) = corner_paper(field, number)[1], point_of(place)
                self.assertGreater(a * x + b * y, c)
                self.assertEqual(lost_behind(field, place), 1)

    def test_rounds_end_in_the_hull_or_in_nothing(self):
        for field in fields():
            self.assertEqual(all_rounds(field)[-1], hull(field))
            self.assertEqual(all_rounds(field)[-1] == [], no_whole_place(field))
            self.assertEqual(none_behind(field) is None, not no_whole_place(field))

    def test_a_row_holds_just_where_a_way_shows_it(self):
        for field in fields():
            for a, b in ((1, 0), (0, -1), (-3, 2), (5, 7)):
                for many, told in enumerate(all_rounds(field)[:4]):
                    c = max([a * x + b * y for x, y in map(point_of, told)], default=Fraction(-1000)).__floor__()
                    way = way_of(field, (a, b, c))
                    depth = depth_of(field, (a, b, c))
                    self.assertEqual(way_shows(field, way) if way else None, ((a, b, c), depth) if way else None)
                    self.assertTrue(depth is None or depth <= many + 1)
                    self.assertTrue(told or depth <= many)


if __name__ == "__main__":
    unittest.main()
