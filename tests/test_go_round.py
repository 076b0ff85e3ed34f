import itertools
import unittest

from roundcuts.rows import go_round

GREAT = 10 ** 30 - 1
BOX = ((1, 0, 4), (-1, 0, 0), (0, 1, 4), (0, -1, 0))
TRIANGLE = ((-1, 0, 0), (0, -1, 0), (1, 1, 5))


def directions(size):
    span = range(-size, size + 1)
    return [(u, v) for u in span for v in span if (u, v) != (0, 0)]


def by_the_words(rows, size):
    """Each direction tried; where a and b go no further than size, those up to size are enough."""
    return all(any(a * u + b * v > 0 for a, b, c in rows) for u, v in directions(size))


class GoRound(unittest.TestCase):
    def told(self, rows, wanted):
        """Whatever their order, their c, and which of them are there twice."""
        for ordered in itertools.permutations(rows):
            self.assertIs(go_round(ordered), wanted, ordered)
            self.assertIs(go_round(tuple((a, b, -7) for a, b, c in ordered)), wanted, ordered)
        self.assertIs(go_round(tuple(rows) + tuple(rows)), wanted, rows)

    def test_no_rows(self):
        self.assertIs(go_round(()), False)

    def test_one_row(self):
        for a, b in directions(2):
            self.told(((a, b, 1),), False)

    def test_two_rows(self):
        for one in directions(3):
            for other in directions(3):
                self.told((one + (1,), other + (2,)), False)

    def test_boxes_and_triangles(self):
        self.told(BOX, True)
        self.told(TRIANGLE, True)
        self.told(((1, 1, 1), (1, -1, 1), (-1, 1, 1), (-1, -1, 1)), True)
        self.told(((2, 1, 3), (-1, 1, 0), (-1, -3, 0)), True)

    def test_what_they_leave_does_not_count(self):
        self.told(((1, 0, -4), (-1, 0, -4), (0, 1, -4), (0, -1, -4)), True)

    def test_rows_on_one_side(self):
        self.told(((1, 0, 1), (1, 1, 1), (1, -1, 1)), False)
        self.told(((-1, 0, 1), (-2, 1, 1), (-2, -1, 1), (-9, 1, 1)), False)
        self.told(((1, 3, 1), (2, 3, 1), (3, 3, 1), (4, 3, 1)), False)

    def test_rows_on_one_line(self):
        self.told(((1, 2, 1), (-1, -2, 1)), False)
        self.told(((1, 2, 1), (-1, -2, 1), (2, 4, 9), (-3, -6, 9)), False)
        self.told(((0, 1, 1), (0, -1, 1), (0, 5, 1)), False)
        self.told(((3, 0, 1), (-1, 0, 1), (-2, 0, 1)), False)

    def test_rows_that_leave_half_a_plane_open(self):
        self.told(((1, 0, 1), (-1, 0, 1), (0, 1, 1)), False)
        self.told(((1, 2, 1), (-1, -2, 1), (2, -1, 1), (3, -1, 1)), False)
        self.told(((1, 0, 1), (0, 1, 1), (-1, 0, 1), (1, 1, 1)), False)

    def test_a_box_without_one_row(self):
        for at in range(4):
            self.told(BOX[:at] + BOX[at + 1:], False)

    def test_a_triangle_without_one_row(self):
        for at in range(3):
            self.told(TRIANGLE[:at] + TRIANGLE[at + 1:], False)

    def test_rows_that_are_twice_there(self):
        self.assertIs(go_round(TRIANGLE * 2), True)
        self.assertIs(go_round(TRIANGLE[:1] * 5), False)
        self.assertIs(go_round(TRIANGLE[:2] * 3), False)
        self.assertIs(go_round(BOX[:1] * 3 + BOX), True)

    def test_great_numbers(self):
        self.told(((GREAT, 0, 1), (-GREAT, 0, 1), (0, GREAT, 1), (0, -GREAT, 1)), True)
        self.told(((GREAT, 0, 1), (-1, GREAT, 1), (-1, -GREAT, 1)), True)
        self.told(((GREAT, 0, 1), (0, GREAT, 1), (0, -GREAT, 1)), False)
        self.told(((GREAT, 0, 1), (1, GREAT, 1), (1, -GREAT, 1)), False)

    def test_hardly_more_or_less_than_half_a_turn(self):
        for a, wanted in ((-GREAT - 1, True), (-GREAT, False), (-GREAT + 1, False)):
            self.told(((1, 0, 0), (GREAT, 1, 0), (a, -1, 0), (0, -1, 0)), wanted)
        for a, wanted in ((-GREAT - 1, False), (-GREAT, False), (-GREAT + 1, True)):
            self.told(((0, 1, 0), (GREAT, 1, 0), (a, -1, 0), (-1, 5, 0)), wanted)

    def test_all_sets_of_eight_directions(self):
        for many in range(9):
            for some in itertools.combinations(directions(1), many):
                rows = tuple(direction + (0,) for direction in some)
                self.assertIs(go_round(rows), by_the_words(rows, 1), rows)

    def test_all_rows_of_small_numbers(self):
        for some in itertools.product(directions(2), repeat=3):
            rows = tuple(direction + (3,) for direction in some)
            self.assertIs(go_round(rows), by_the_words(rows, 2), rows)

    def test_four_rows_of_small_numbers(self):
        for some in itertools.combinations(directions(2), 4):
            rows = tuple(direction + (-1,) for direction in some)
            self.assertIs(go_round(rows), by_the_words(rows, 2), rows)
            self.assertIs(go_round(rows[::-1]), by_the_words(rows, 2), rows)

    def test_many_rows(self):
        self.assertIs(go_round(BOX * 20000), True)
        self.assertIs(go_round(BOX[:3] * 20000), False)
        self.assertIs(go_round(BOX[:1] * 20000 + BOX), True)

    def test_the_rows_stay_as_they_are(self):
        rows = tuple(BOX)
        self.assertEqual([go_round(rows), go_round(rows)], [True, True])
        self.assertEqual(rows, ((1, 0, 4), (-1, 0, 0), (0, 1, 4), (0, -1, 0)))


if __name__ == "__main__":
    unittest.main()
