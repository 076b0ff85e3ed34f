import itertools
import unittest
from fractions import Fraction

from plain import BOX, CROWDED, FIELDS, ONE_PLACE, STRETCH, TWICE, place_of, plain_corners, plain_sum, some_fields

from roundcuts.sides import direction_of, sides_at, weights_of_row, weights_towards


class SidesAt(unittest.TestCase):
    def test_two_rows(self):
        self.assertEqual(sides_at(BOX, place_of(0, 0)), [(1, 3)])
        self.assertEqual(sides_at(BOX, place_of(4, 0)), [(3, 0)])
        self.assertEqual(sides_at(BOX, place_of(4, 3)), [(0, 2)])

    def test_more_rows(self):
        self.assertEqual(sides_at(CROWDED, place_of(0, 0)), [(0, 2), (2, 1)])
        half = Fraction(5, 2)
        self.assertEqual(sides_at(CROWDED, place_of(half, half)), [(3, 6), (5, 4), (6, 5)])

    def test_the_order_of_the_rows_does_not_count(self):
        crowd = CROWDED[3:]
        wanted = [((1, 1), (0, 2)), ((2, 0), (3, 1)), ((3, 1), (1, 1)), ((-1, 0), (0, -1))]
        for ordered in itertools.permutations(crowd + ((-1, 0, 0), (0, -1, 0))):
            for place in (place_of(Fraction(5, 2), Fraction(5, 2)), place_of(0, 0)):
                for one, other in sides_at(ordered, place):
                    self.assertIn((ordered[one][:2], ordered[other][:2]), wanted)

    def test_half_a_turn_and_a_whole_one(self):
        self.assertEqual(sides_at(STRETCH, place_of(0, 3)), [(0, 2), (2, 1)])
        self.assertEqual(sides_at(ONE_PLACE, place_of(2, -3)), [(0, 2), (1, 3), (2, 1), (3, 0)])

    def test_rows_that_are_twice_there(self):
        self.assertEqual([number for number, beside in sides_at(TWICE, place_of(0, 0))], [0, 3])

    def test_no_corner(self):
        self.assertEqual(sides_at(BOX, place_of(1, 1)), [])
        self.assertEqual(sides_at(BOX, place_of(4, 1)), [])
        self.assertEqual(sides_at(STRETCH, place_of(1, 2)), [])

    def test_each_row_is_the_first_of_a_pair_at_one_corner_at_most(self):
        for field in list(FIELDS.values()) + some_fields(100, 5, 3):
            firsts = [pair[0] for place in plain_corners(field) for pair in sides_at(field, place)]
            self.assertEqual(len(set(firsts)), len(firsts), field)

    def test_the_pairs_go_all_round(self):
        asked = [(a, b) for a in range(-3, 4) for b in range(-3, 4) if (a, b) != (0, 0)]
        for field in list(FIELDS.values()) + some_fields(30, 5, 4):
            pairs = [pair for place in plain_corners(field) for pair in sides_at(field, place)]
            for direction in asked if plain_corners(field) else []:
                found = [weights_towards(field, pair, direction) for pair in pairs]
                self.assertTrue([weights for weights in found if weights], (field, direction))


class Weights(unittest.TestCase):
    def test_towards(self):
        self.assertEqual(weights_towards(BOX, (0, 2), (2, 5)), ((2, 1), (0, 1), (5, 1), (0, 1)))
        self.assertEqual(weights_towards(CROWDED, (6, 5), (2, 1)), ((0, 1),) * 5 + ((1, 2), (1, 2)))
        self.assertIsNone(weights_towards(BOX, (0, 2), (-2, 5)))

    def test_of_a_row(self):
        for number, row in enumerate(CROWDED):
            self.assertEqual(plain_sum(CROWDED, weights_of_row(CROWDED, number)), row)

    def test_direction(self):
        self.assertEqual(direction_of((3, -4, 5)), (3, -4))


if __name__ == "__main__":
    unittest.main()
