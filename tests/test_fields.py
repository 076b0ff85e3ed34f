import copy
import itertools
import unittest

from no_fields import no_fields
from plain import (
    BOX, BROKEN_STRETCH, CROWDED, DOUBLED, EIGHT, FIELDS, HALF_BOX, LONG_SPIKE, NO_PLACE, NO_PLACE_OF_THREE,
    ONE_BROKEN_PLACE, ONE_PLACE, SPIKE, STRETCH, TRIANGLE, TWICE, is_plain_field, some_rows,
)
from things import nested, odd_things

from roundcuts.errors import CutError, NoField
from roundcuts.fields import is_field, need_field

GREAT = 10 ** 30 - 1


class Fields(unittest.TestCase):
    def told(self, thing, wanted):
        self.assertIs(is_field(thing), wanted, thing)

    def test_boxes_triangles_spikes(self):
        for field in (BOX, HALF_BOX, TRIANGLE, SPIKE, LONG_SPIKE, EIGHT, CROWDED):
            self.told(field, True)

    def test_in_any_order(self):
        for field in (BOX, TRIANGLE, SPIKE, ONE_PLACE, STRETCH, NO_PLACE):
            for ordered in itertools.permutations(field):
                self.told(ordered, True)

    def test_rows_that_are_twice_there(self):
        for field in (TWICE, DOUBLED, BOX + BOX, TRIANGLE + TRIANGLE[:1] * 5, SPIKE[:1] + SPIKE):
            self.told(field, True)

    def test_one_place_a_stretch_or_nothing(self):
        for field in (ONE_PLACE, ONE_BROKEN_PLACE, STRETCH, BROKEN_STRETCH, NO_PLACE, NO_PLACE_OF_THREE):
            self.told(field, True)

    def test_three_to_eight_rows(self):
        wide = BOX + ((1, 1, 100), (1, -1, 100), (-1, 1, 100), (-1, -1, 100), (2, 1, 100))
        for many in range(4, 9):
            self.told(wide[:many], True)
        self.told(TRIANGLE, True)
        self.told(wide, False)
        self.told(BOX + BOX + BOX[:1], False)
        self.told(TRIANGLE * 3, False)
        for many in range(3):
            for some in itertools.combinations(BOX, many):
                self.told(some, False)
        self.told(TRIANGLE[:2], False)

    def test_a_and_b_up_to_30(self):
        for k in (30, -30):
            self.told(BOX + ((k, 0, 500),), True)
            self.told(BOX + ((0, k, 500),), True)
            self.told(BOX + ((k, k, 500),), True)
            self.told(BOX + ((k, -k, 500),), True)
        self.told(((30, 0, 1), (-30, 0, 1), (0, 30, 1), (0, -30, 1)), True)
        for k in (31, -31, 32, 1000, GREAT, -GREAT):
            self.told(BOX + ((k, 0, 500),), False)
            self.told(BOX + ((0, k, 500),), False)
            self.told(BOX + ((k, 1, 500),), False)
            self.told(BOX + ((-1, k, 500),), False)
            self.told(((k, 0, 500),) + BOX, False)
        self.told(((31, 0, 1), (-30, 0, 1), (0, 30, 1), (0, -30, 1)), False)

    def test_c_up_to_1000(self):
        for c in (1000, -1000):
            self.told(BOX + ((1, 0, c),), True)
            self.told(BOX + ((-30, 30, c),), True)
        for c in (1001, -1001, GREAT, -GREAT):
            self.told(BOX + ((1, 0, c),), False)
            self.told(BOX + ((-30, 30, c),), False)
            self.told(((0, 1, c),) + BOX, False)

    def test_rows_that_do_not_go_all_round(self):
        for at in range(4):
            self.told(BOX[:at] + BOX[at + 1:], False)
            self.told(BOX[:at] + BOX[at + 1:] + BOX[:at] + BOX[at + 1:], False)
        self.told(((1, 2, 1), (-1, -2, 1), (2, 4, 9), (-3, -6, 9)), False)
        self.told(((1, 0, 1), (1, 1, 1), (1, -1, 1)), False)
        self.told(((1, 0, 1), (-1, 0, 1), (0, 1, 1)), False)

    def test_rows_that_leave_nothing_and_do_not_go_all_round(self):
        self.told(((1, 0, -1), (-1, 0, -1), (1, 0, 5)), False)
        self.told(((1, 0, -1), (-1, 0, -1), (0, 1, 5)), False)

    def test_corners_up_to_12(self):
        self.told(((1, 0, 12), (-1, 0, 12), (0, 1, 12), (0, -1, 12)), True)
        for at in range(4):
            for factor in (1, 2, 7, 30):
                rows = list(((1, 0, 12), (-1, 0, 12), (0, 1, 12), (0, -1, 12)))
                a, b, c = rows[at]
                rows[at] = (factor * a, factor * b, factor * c)
                self.told(tuple(rows), True)
                rows[at] = (factor * a, factor * b, factor * c + 1)
                self.told(tuple(rows), False)
                rows[at] = (factor * a, factor * b, factor * c - 1)
                self.told(tuple(rows), True)

    def test_a_broken_corner_beyond_12(self):
        self.told(((2, 0, 25), (-1, 0, 0), (0, 1, 1), (0, -1, 0)), False)
        self.told(((2, 0, 24), (-1, 0, 0), (0, 1, 1), (0, -1, 0)), True)
        self.told(((1, 0, 1), (-1, 0, 0), (0, 1, 0), (0, -2, 25)), False)
        self.told(((1, 0, 1), (-1, 0, 0), (0, 1, 0), (0, -2, 23)), True)
        # Here two slant rows meet at x = 1/2 and y = 25/2, then at y = 12.
        self.told(((-25, 1, 0), (25, 1, 25), (0, -1, 0)), False)
        self.told(((-24, 1, 0), (24, 1, 24), (0, -1, 0)), True)

    def test_one_corner_of_many_beyond_12(self):
        self.told(TRIANGLE[:2] + ((1, 1, 12),), True)
        self.told(TRIANGLE[:2] + ((1, 1, 13),), False)
        self.told(TRIANGLE[:2] + ((1, 1, 13), (1, 0, 12), (0, 1, 12)), True)
        self.told(TRIANGLE[:2] + ((1, 1, 13), (1, 0, 12)), False)

    def test_rows_that_meet_far_off_where_nothing_is_left(self):
        self.told(BOX + ((30, 29, 1000), (29, 28, 1000)), True)
        self.told(NO_PLACE[:2] + ((0, 1, 900), (0, -1, 900)), True)
        self.told(((30, 29, -1000), (-30, -29, -1000), (29, 28, 1000), (-29, -28, 1000)), True)

    def test_corners_very_far_off(self):
        self.told(((30, 29, 1000), (-29, -28, 1000), (-1, 0, 1000), (1, 0, 1000)), False)
        self.told(((30, 29, 1000), (-30, -29, 1000), (29, 28, 1000), (-29, -28, 1000)), False)
        # All that is left of these goes from (-57000, 59000) to (-29000, 30000).
        self.told(((30, 29, 1000), (-29, -28, 1000), (29, 28, -1000), (-1, -1, -1000)), False)

    def test_a_truth_at_any_place(self):
        unit = ((1, 0, 1), (-1, 0, 0), (0, 1, 1), (0, -1, 0))
        self.told(unit, True)
        for at in range(4):
            for part in range(3):
                for truth in (True, False):
                    rows = [list(row) for row in unit]
                    rows[at][part] = truth
                    self.told(tuple(tuple(row) for row in rows), False)

    def test_lists(self):
        for field in FIELDS.values():
            self.told(list(field), False)
            self.told(tuple(list(row) for row in field), False)
            self.told([list(row) for row in field], False)
            self.told(field[:-1] + (list(field[-1]),), False)

    def test_other_things(self):
        for thing in odd_things() + no_fields():
            self.told(thing, False)
        for field in FIELDS.values():
            for thing in ((field,), [field], {"field": field}, {field: field}, nested(field, 17), str(field)):
                self.told(thing, False)
            self.told(field[0], False)

    def test_no_row_among_rows(self):
        for thing in odd_things() + [(0, 0, 5), 7, "1 0 5"]:
            self.told(TRIANGLE + (thing,), False)
            self.told((thing,) + TRIANGLE, False)

    def test_by_the_words(self):
        for size in (1, 2, 4, 9, 30):
            for rows in some_rows(500, size, size):
                self.told(rows, is_plain_field(rows))

    def test_what_is_looked_at_stays_as_it_is(self):
        for thing in no_fields() + list(FIELDS.values()):
            before = copy.deepcopy(thing)
            told = is_field(thing)
            self.assertEqual(thing, before)
            self.assertIs(is_field(thing), told)

    def test_nothing_hangs_on_what_is_done_later(self):
        row = [0, -1, 0]
        self.told(BOX[:3] + (row,), False)
        row.clear()
        self.told(BOX[:3] + (row,), False)
        self.told(BOX, True)

    def test_name_of_the_argument(self):
        self.assertIs(is_field(thing=BOX), True)


class NeedField(unittest.TestCase):
    def test_fields_pass(self):
        for field in FIELDS.values():
            self.assertIsNone(need_field(field))

    def test_all_else_is_refused(self):
        for thing in no_fields():
            with self.assertRaises(CutError) as caught:
                need_field(thing)
            self.assertIs(caught.exception.__class__, NoField)


if __name__ == "__main__":
    unittest.main()
