import functools
import itertools
import unittest
from fractions import Fraction

from no_fields import no_fields, refuses_what_is_no_field
from plain import (
    BOX, BROKEN_STRETCH, BROKEN_TRIANGLE, CROWDED, DEEP_FIELDS, EIGHT, EMPTY_TRIANGLE, FIELDS, HALF_BOX, LONG_SPIKE,
    LYING_SPIKE, NO_PLACE, NO_PLACE_OF_THREE, ONE_BROKEN_PLACE, ONE_PLACE, SLANT_SQUARE, SPIKE, STRETCH, TRIANGLE,
    in_order, is_plain_field, place_of, point_of, points_kept, some_fields, whole_points,
)
from refusals import refused
from things import nested, odd_things

from roundcuts.behind import all_rounds, behind, whole_places
from roundcuts.corners import corners
from roundcuts.errors import NoField, NoNumber, NoTurn
from roundcuts.fields import is_field
from roundcuts.moves import is_within, led_to, moved, side, turn_back, turned
from roundcuts.rows import is_tight
from roundcuts.ways import depth_of

HALF = Fraction(1, 2)
SIMPLE_TURNS = (
    (1, 0, 0, 1), (0, -1, 1, 0), (-1, 0, 0, -1), (0, 1, -1, 0), (1, 0, 0, -1), (-1, 0, 0, 1), (0, 1, 1, 0), (0, -1, -1, 0),
    (1, 1, 0, 1), (1, -1, 0, 1), (1, 0, 1, 1), (1, 0, -1, 1),
)


def product(one, other):
    """First the other one, then the one."""
    (p, q, r, s), (t, u, v, w) = one, other
    return (p * t + q * v, p * u + q * w, r * t + s * v, r * u + s * w)


@functools.cache
def turns():
    twice = [product(one, other) for one in SIMPLE_TURNS for other in SIMPLE_TURNS]
    thrice = [product(one, other) for one in twice[::5] for other in twice[::7]]
    great = [(30, 29, 1, 1), (29, -30, -1, 1), (1, 30, 0, 1), (1, 0, -30, 1), (0, 1, -1, 30), (-30, 1, -1, 0), (5, 7, 2, 3)]
    return tuple(sorted(set(SIMPLE_TURNS) | set(twice) | set(thrice) | set(great)))


@functools.cache
def fields():
    return tuple(list(FIELDS.values()) + list(DEEP_FIELDS.values()) + some_fields(40, 3, 61) + some_fields(20, 6, 62))


def shifted(told, u, v):
    """The corners, each moved, in order."""
    points = [point_of(place) for place in told]
    return [place_of(x, y) for x, y in in_order([(x + u, y + v) for x, y in points])]


def led(told, turn):
    (p, q, r, s), points = turn, [point_of(place) for place in told]
    return [place_of(x, y) for x, y in in_order([(p * x + q * y, r * x + s * y) for x, y in points])]


def tight_ones(told, row):
    """Of the corners those at which the row is tight, in the order of corners: there are at most two of them."""
    a, b, c = row
    return [place_of(x, y) for x, y in sorted(map(point_of, told)) if a * x + b * y == c]


class Moved(unittest.TestCase):
    def test_rows(self):
        self.assertEqual(moved(SPIKE, 2, 5), ((-3, 1, -1), (3, 1, 17), (0, -2, -11)))
        self.assertEqual(moved(TRIANGLE, -1, 3), ((-1, 0, 1), (0, -1, -3), (1, 1, 7)))
        for field in fields():
            self.assertEqual(moved(field, 0, 0), field)

    def test_places(self):
        for field in fields():
            for u, v in ((1, 0), (0, -1), (2, 3), (-4, 1)):
                rows = tuple((a, b, c + a * u + b * v) for a, b, c in field)
                if is_plain_field(rows):
                    self.assertEqual(moved(field, u, v), rows)
                    self.assertEqual(corners(rows), shifted(corners(field), u, v))
                else:
                    refused(self, NoField, moved, field, u, v)

    def test_there_and_back_again(self):
        for field in (BOX, SPIKE, HALF_BOX, ONE_PLACE, STRETCH, NO_PLACE, BROKEN_TRIANGLE, TRIANGLE):
            for u, v in ((3, -2), (-5, 5), (7, 1), (0, -8)):
                self.assertEqual(moved(moved(field, u, v), -u, -v), field)

    def test_out_to_24(self):
        far = ((1, 0, -12), (-1, 0, 12), (0, 1, 12), (0, -1, -12))
        self.assertEqual(moved(far, 24, -24), ((1, 0, 12), (-1, 0, -12), (0, 1, -12), (0, -1, 12)))
        self.assertEqual(moved(moved(far, 24, -24), -24, 24), far)
        self.assertEqual(moved(NO_PLACE, 24, 24), ((1, 0, 23), (-1, 0, -25), (0, 1, 29), (0, -1, -19)))
        for u, v in ((25, 0), (0, 25), (-25, 0), (0, -25), (24, 25), (-25, -24), (10 ** 29, 0), (0, -10 ** 29)):
            refused(self, NoNumber, moved, NO_PLACE, u, v)
            refused(self, NoNumber, moved, far, u, v)

    def test_no_number(self):
        for thing in odd_things() + [True, False, None, "1", (1, 1), (1, 2), [1], {1: 1}]:
            refused(self, NoNumber, moved, TRIANGLE, thing, 0)
            refused(self, NoNumber, moved, TRIANGLE, 0, thing)
            refused(self, NoNumber, moved, TRIANGLE, 24, thing)
            refused(self, NoNumber, moved, TRIANGLE, thing, thing)

    def test_a_moved_one_that_is_no_field(self):
        refused(self, NoField, moved, BOX, 9, 0)
        refused(self, NoField, moved, BOX, -13, 0)
        refused(self, NoField, moved, BOX, 0, 10)
        self.assertEqual(corners(moved(BOX, 8, 9))[2], place_of(12, 12))
        # Nothing is left, so no corner is too far off, but c is too great or too small.
        nothing = ((30, 30, -500), (-30, -30, 400), (1, 0, 3), (0, 1, 3), (-1, -1, 3))
        self.assertIs(is_field(nothing), True)
        refused(self, NoField, moved, nothing, 24, 24)
        refused(self, NoField, moved, nothing, -24, 0)
        self.assertEqual(moved(nothing, 24, 1)[0], (30, 30, 250))

    def test_c_up_to_1000(self):
        wide = BOX + ((30, 0, 1000),)
        refused(self, NoField, moved, wide, 1, 0)
        self.assertEqual(moved(wide, -1, 0)[-1], (30, 0, 970))

    def test_no_field(self):
        for u, v in ((0, 0), (25, 0), (None, True)):
            refuses_what_is_no_field(self, lambda thing: moved(thing, u, v))


class Turns(unittest.TestCase):
    def no_turns(self):
        good = (2, 1, 1, 1)
        wrong = [
            (0, 0, 0, 0), (1, 1, 1, 1), (2, 0, 0, 1), (1, 0, 0, 2), (1, 2, 2, 1), (1, 1, -1, 1), (2, 0, 0, -1), (3, 1, 1, 1),
            (31, 0, 0, 1), (1, 31, 0, 1), (1, 0, -31, 1), (31, 30, 1, 1), (1, 1, 30, 31), (-1, 10 ** 29, 0, 1),
            (True, 0, 0, 1), (1, False, 0, 1), (1, 0, False, 1), (1, 0, 0, True), (True, False, False, True),
            list(good), good[:3], good + (0,), (good[:2], good[2:]), str(good), dict(enumerate(good)), (good,), [good],
            ("1", 0, 0, 1), (1, 0, 0, (1, 1)), (1, None, 0, 1), (1, 0, [0], 1), ((1, 1), (0, 1), (0, 1), (1, 1)),
            nested(good, 17), 0, 1, -1, 10 ** 29, BOX, (nested(1, 18), 0, 0, 1),
        ]
        return wrong + odd_things()

    def test_led_to(self):
        self.assertEqual(led_to((1, 0, 0, 1), place_of(HALF, 3)), place_of(HALF, 3))
        self.assertEqual(led_to((0, -1, 1, 0), place_of(HALF, 3)), place_of(-3, HALF))
        self.assertEqual(led_to((2, 3, 1, 2), place_of(HALF, Fraction(-1, 3))), place_of(0, Fraction(-1, 6)))
        self.assertEqual(led_to((0, 1, 1, 0), place_of(HALF, 3)), place_of(3, HALF))
        great = Fraction(10 ** 29 - 1, 10 ** 29)
        self.assertEqual(led_to((30, 29, 1, 1), place_of(great, -great)), place_of(great, 0))

    def test_led_to_by_the_words(self):
        points = [(Fraction(x, 6), Fraction(y, 4)) for x in range(-13, 14, 5) for y in range(-9, 10, 3)]
        for p, q, r, s in turns():
            for x, y in points:
                told = led_to((p, q, r, s), place_of(x, y))
                self.assertEqual(told, place_of(p * x + q * y, r * x + s * y))

    def test_turn_back(self):
        self.assertEqual(turn_back((1, 0, 0, 1)), (1, 0, 0, 1))
        self.assertEqual(turn_back((0, -1, 1, 0)), (0, 1, -1, 0))
        self.assertEqual(turn_back((0, 1, 1, 0)), (0, 1, 1, 0))
        self.assertEqual(turn_back((2, 3, 1, 2)), (2, -3, -1, 2))
        self.assertEqual(turn_back((30, 29, 1, 1)), (1, -29, -1, 30))
        self.assertEqual(turn_back((29, 30, 1, 1)), (-1, 30, 1, -29))

    def test_turn_back_leads_back(self):
        for turn in turns():
            back = turn_back(turn)
            self.assertIs(back.__class__, tuple)
            self.assertEqual(product(back, turn), (1, 0, 0, 1))
            self.assertEqual(product(turn, back), (1, 0, 0, 1))
            self.assertEqual(turn_back(back), turn)
            for place in (place_of(HALF, -3), place_of(Fraction(5, 7), Fraction(-1, 10 ** 20))):
                self.assertEqual(led_to(back, led_to(turn, place)), place)

    def test_both_sizes_are_there(self):
        sizes = {p * s - q * r for p, q, r, s in turns()}
        self.assertEqual(sizes, {1, -1})

    def test_turned_rows(self):
        self.assertEqual(turned(TRIANGLE, (1, 0, 0, 1)), TRIANGLE)
        # x goes to where y was: x >= 0 becomes y >= 0.
        self.assertEqual(turned(BOX, (0, -1, 1, 0)), ((0, 1, 4), (0, -1, 0), (-1, 0, 3), (1, 0, 0)))
        self.assertEqual(turned(TRIANGLE, (1, 1, 0, 1)), ((-1, 1, 0), (0, -1, 0), (1, 0, 5)))
        self.assertEqual(turned(SPIKE, (0, 1, 1, 0)), ((1, -3, 0), (1, 3, 6), (-2, 0, -1)))

    def test_turned_corners(self):
        tried = 0
        for field in fields():
            for turn in turns()[::9]:
                p, q, r, s = turn
                size = p * s - q * r
                # Reckoned anew: the turn that leads back is (s, -q, -r, p) by its size.
                rows = tuple((size * (a * s - b * r), size * (b * p - a * q), c) for a, b, c in field)
                if is_plain_field(rows):
                    tried += 1
                    self.assertEqual(turned(field, turn), rows)
                    self.assertEqual(corners(rows), led(corners(field), turn))
                    for place in corners(field):
                        self.assertIn(led_to(turn, place), corners(rows))
                else:
                    refused(self, NoField, turned, field, turn)
        self.assertGreater(tried, 300)

    def test_turned_and_back(self):
        for field in (BOX, TRIANGLE, SPIKE, HALF_BOX, SLANT_SQUARE, NO_PLACE_OF_THREE):
            for turn in SIMPLE_TURNS:
                self.assertEqual(turned(turned(field, turn), turn_back(turn)), field)

    def test_a_turned_one_that_is_no_field(self):
        refused(self, NoField, turned, BOX, (1, 3, 0, 1))
        refused(self, NoField, turned, BOX, (1, 0, -4, 1))
        # Nothing is left, so no corner is too far off, but a or b is too great.
        nothing = ((2, 0, -1), (-2, 0, -1), (0, 1, 5), (0, -1, 5))
        refused(self, NoField, turned, nothing, (1, 16, 0, 1))
        self.assertEqual(turned(nothing, (1, 15, 0, 1))[0], (2, -30, -1))

    def test_no_turn(self):
        for thing in self.no_turns():
            refused(self, NoTurn, led_to, thing, place_of(HALF, 1))
            refused(self, NoTurn, turn_back, thing)
            refused(self, NoTurn, turned, BOX, thing)
            refused(self, NoTurn, turned, NO_PLACE, thing)

    def test_no_field(self):
        for turn in [(1, 0, 0, 1), (0, 1, 1, 0), (2, 0, 0, 2)] + odd_things()[::6]:
            refuses_what_is_no_field(self, lambda thing: turned(thing, turn))


class Side(unittest.TestCase):
    def test_rows(self):
        self.assertEqual(side(TRIANGLE, 2), TRIANGLE + ((-1, -1, -5),))
        self.assertEqual(side(SPIKE, 0), SPIKE + ((3, -1, 0),))
        self.assertEqual(side(ONE_PLACE, 3), ONE_PLACE + ((0, 1, -3),))

    def test_what_is_left_is_where_the_row_is_tight(self):
        for field in fields():
            for k in range(len(field)) if len(field) < 8 else ():
                told = side(field, k)
                self.assertIs(is_field(told), True)
                self.assertEqual(told[:-1], field)
                self.assertEqual(corners(told), tight_ones(corners(field), field[k]), (field, k))

    def test_of_a_side(self):
        field = TRIANGLE
        for k in (0, 1, 3, 3, 0):
            field = side(field, k)
        self.assertEqual(len(field), 8)
        self.assertEqual(corners(field), [place_of(0, 0)])
        refused(self, NoField, side, field, 0)

    def test_no_number(self):
        for field in (TRIANGLE, BOX, NO_PLACE, EIGHT):
            wrong = [-1, -len(field), len(field), len(field) + 1, 10 ** 29, -10 ** 29]
            for k in wrong + [True, False, None, "0", (0, 1), [0], {}, (0,)] + odd_things():
                refused(self, NoNumber, side, field, k)

    def test_eight_rows(self):
        for field in (EIGHT, BOX + BOX):
            for k in range(8):
                refused(self, NoField, side, field, k)
        self.assertEqual(len(side(CROWDED, 6)), 8)

    def test_no_field(self):
        for k in [0, 1, -1, 9] + odd_things()[::6]:
            refuses_what_is_no_field(self, lambda thing: side(thing, k))


class IsWithin(unittest.TestCase):
    def test_itself_and_rows_more_or_fewer(self):
        for field in fields():
            self.assertIs(is_within(field, field), True)
            for k in range(len(field)):
                fewer = field[:k] + field[k + 1:]
                if is_plain_field(fewer):
                    self.assertIs(is_within(field, fewer), True)
                    self.assertIs(is_within(fewer, field), points_kept(fewer) <= points_kept(field))
                if len(field) < 8:
                    self.assertIs(is_within(side(field, k), field), True)

    def test_others(self):
        for one, other, wanted in (
                (BOX, HALF_BOX, False), (HALF_BOX, BOX, False), (TRIANGLE, BOX, False), (BOX, TRIANGLE, False),
                (STRETCH, TRIANGLE, True), (TRIANGLE, STRETCH, False), (STRETCH, BOX, True), (ONE_PLACE, BOX, False),
                (ONE_BROKEN_PLACE, BOX, True), (ONE_BROKEN_PLACE, HALF_BOX, True), (SPIKE, BOX, True),
                (BROKEN_STRETCH, HALF_BOX, False), (BROKEN_TRIANGLE, TRIANGLE, True)):
            self.assertIs(is_within(one, other), wanted, (one, other))

    def test_nothing_is_within_anything(self):
        for field in fields():
            for nothing in (NO_PLACE, NO_PLACE_OF_THREE):
                self.assertIs(is_within(nothing, field), True)
                self.assertIs(is_within(field, nothing), not points_kept(field))

    def test_by_the_words(self):
        for one, other in itertools.product(fields()[::2], fields()[1::3]):
            wanted = all(a * x + b * y <= c for x, y in points_kept(one) for a, b, c in other)
            self.assertIs(is_within(one, other), wanted)

    def test_either_one_no_field(self):
        for thing in no_fields():
            refused(self, NoField, is_within, thing, BOX)
            refused(self, NoField, is_within, BOX, thing)
            refused(self, NoField, is_within, thing, thing)
            refused(self, NoField, is_within, NO_PLACE, thing)


class RoundsGoAlong(unittest.TestCase):
    asked = ((1, 0), (0, -1), (2, 3), (-5, 1))

    def rows(self, field):
        for a, b in self.asked:
            for told in all_rounds(field)[:3]:
                values = [a * x + b * y for x, y in map(point_of, told)]
                for c in {max(values).__floor__(), max(values).__floor__() - 1} if values else ():
                    yield a, b, c

    def test_moved(self):
        for field in fields():
            for u, v in ((1, -2), (-3, 1)):
                try:
                    other = moved(field, u, v)
                except NoField:
                    continue
                self.assertEqual(all_rounds(other), [shifted(told, u, v) for told in all_rounds(field)])
                for many in (0, 1, 2, 7):
                    self.assertEqual(behind(other, many), shifted(behind(field, many), u, v))
                self.assertEqual(whole_places(other), [place_of(x + u, y + v) for x, y in sorted(whole_points(field))])
                for a, b, c in self.rows(field):
                    self.assertEqual(depth_of(other, (a, b, c + a * u + b * v)), depth_of(field, (a, b, c)))

    def test_turned(self):
        for field in fields():
            for turn in ((0, -1, 1, 0), (0, 1, 1, 0), (1, 1, 0, 1), (1, 0, -2, -1)):
                try:
                    other = turned(field, turn)
                except NoField:
                    continue
                self.assertEqual(all_rounds(other), [led(told, turn) for told in all_rounds(field)])
                for many in (0, 1, 2, 7):
                    self.assertEqual(behind(other, many), led(behind(field, many), turn))
                told = [led_to(turn, place) for place in whole_places(field)]
                self.assertEqual(whole_places(other), sorted(told))
                p, q, r, s = turn_back(turn)
                for a, b, c in self.rows(field):
                    self.assertEqual(depth_of(other, (a * p + b * r, a * q + b * s, c)), depth_of(field, (a, b, c)))

    def test_sides(self):
        for field in fields() + (LONG_SPIKE, LYING_SPIKE, EMPTY_TRIANGLE):
            for k in range(len(field)) if len(field) < 8 else ():
                other = side(field, k)
                for many in (0, 1, 2, 3):
                    left = tight_ones(behind(field, many), field[k])
                    self.assertEqual(behind(other, many), left, (field, k, many))
                self.assertEqual(whole_places(other), [p for p in whole_places(field) if is_tight(field[k], p)])

    def test_fields_in_fields(self):
        tried = 0
        some = [field for field in fields() if len(points_kept(field)) > 0]
        for one, other in itertools.product(some[::2], some[1::4]):
            if is_within(one, other):
                tried += 1
                for many in (1, 2, 5):
                    self.assertTrue(self.lie_in(behind(one, many), behind(other, many)), (one, other, many))
                self.assertTrue(set(whole_points(one)) <= set(whole_points(other)))
        self.assertGreater(tried, 20)

    def lie_in(self, inner, outer):
        points = [point_of(place) for place in outer]
        for x, y in map(point_of, inner):
            if len(points) < 2 and (x, y) not in points:
                return False
            for (a, b), (c, d) in zip(points, points[1:] + points[:1]) if len(points) > 1 else ():
                # Of a stretch both ways round are gone, so only what is on its line passes both.
                if (c - a) * (y - b) < (d - b) * (x - a):
                    return False
        return True


class AskedAgain(unittest.TestCase):
    def test_names_of_the_arguments(self):
        self.assertEqual(moved(field=BOX, u=1, v=2), moved(BOX, 1, 2))
        self.assertEqual(led_to(turn=(0, 1, 1, 0), place=place_of(1, 2)), place_of(2, 1))
        self.assertEqual(turn_back(turn=(0, 1, 1, 0)), (0, 1, 1, 0))
        self.assertEqual(turned(field=BOX, turn=(0, 1, 1, 0)), turned(BOX, (0, 1, 1, 0)))
        self.assertEqual(side(field=BOX, k=1), side(BOX, 1))
        self.assertIs(is_within(one=BOX, other=TRIANGLE), False)


if __name__ == "__main__":
    unittest.main()
