import copy
import math
import unittest
from fractions import Fraction

from plain import fraction_of
from things import nested, odd_things

from roundcuts.errors import CutError, NoTurn
from roundcuts.fractions import is_fraction
from roundcuts.turns import between, parts

GREAT = 10 ** 30 - 1


def directions(size):
    span = range(-size, size + 1)
    return [(a, b) for a in span for b in span if (a, b) != (0, 0)]


def turn(one, other):
    return one[0] * other[1] - one[1] * other[0]


def refused(test, ask):
    with test.assertRaises(CutError) as caught:
        ask()
    test.assertIs(caught.exception.__class__, NoTurn)


NO_TURNS = (
    ((1, 0), (1, 0)), ((1, 0), (5, 0)), ((2, 3), (4, 6)), ((1, 0), (-1, 0)), ((2, 3), (-4, -6)), ((0, 1), (1, 0)),
    ((1, 0), (1, -1)), ((-60, 60), (60, 60)), ((60, -60), (-60, 60)), ((60, 59), (59, 58)), ((3, 1), (-3, -2)),
)


class Parts(unittest.TestCase):
    def test_on_the_one(self):
        self.assertEqual(parts((2, 1), (-1, 3), (2, 1)), ((1, 1), (0, 1)))
        self.assertEqual(parts((2, 4), (-1, 3), (1, 2)), ((1, 2), (0, 1)))
        self.assertEqual(parts((2, 4), (-1, 3), (5, 10)), ((5, 2), (0, 1)))

    def test_on_the_other(self):
        self.assertEqual(parts((2, 1), (-1, 3), (-1, 3)), ((0, 1), (1, 1)))
        self.assertEqual(parts((2, 1), (-3, 9), (-1, 3)), ((0, 1), (1, 3)))
        self.assertEqual(parts((2, 1), (-3, 9), (-4, 12)), ((0, 1), (4, 3)))

    def test_between(self):
        self.assertEqual(parts((1, 0), (0, 1), (3, 7)), ((3, 1), (7, 1)))
        self.assertEqual(parts((2, 1), (-1, 3), (1, 1)), ((4, 7), (1, 7)))
        self.assertEqual(parts((3, 1), (1, 3), (1, 1)), ((1, 4), (1, 4)))
        self.assertEqual(parts((1, 0), (-60, 1), (-59, 1)), ((1, 1), (1, 1)))

    def test_not_between(self):
        for thing in ((1, -1), (-1, 1), (-1, -1), (-1, 0), (0, -1), (100, -1), (-1, 100)):
            self.assertIsNone(parts((1, 0), (0, 1), thing), thing)

    def test_behind(self):
        for thing in ((-2, -1), (1, -3), (-1, -4), (-20, -10), (10, -30)):
            self.assertIsNone(parts((2, 1), (-1, 3), thing), thing)

    def test_hardly_between(self):
        self.assertEqual(parts((1, 0), (0, 1), (GREAT, 1)), ((GREAT, 1), (1, 1)))
        self.assertIsNone(parts((1, 0), (0, 1), (GREAT, -1)))
        self.assertIsNone(parts((1, 0), (0, 1), (-1, GREAT)))

    def test_great_numbers(self):
        for size in (GREAT, GREAT ** 5):
            self.assertEqual(parts((2, 0), (0, 3), (size, size)), (fraction_of(Fraction(size, 2)), fraction_of(Fraction(size, 3))))
            self.assertIsNone(parts((2, 0), (0, 3), (size, -size)))

    def test_what_is_no_direction(self):
        wrong = [(0, 0), 0, 7, (True, 1), (1, True), (False, 1), (1, False), (True, True), [1, 1], (1, 1, 1), (1,),
                 ((1, 1), (1, 1)), ((1, 1), 1), (1, (1, 1)), ("1", "1"), "11", (None, 1), {1: 1, 2: 2}, {"a": 1},
                 nested((1, 1), 19), (nested(1, 19), 1), [[1, 1]], GREAT]
        for thing in wrong + odd_things():
            self.assertIsNone(parts((1, 0), (0, 1), thing), thing)
            self.assertIsNone(parts((60, -59), (-60, 60), thing), thing)

    def test_no_turn(self):
        for one, other in NO_TURNS:
            for thing in [(1, 1), one, other, (0, 0), 5] + odd_things():
                refused(self, lambda: parts(one, other, thing))

    def test_by_the_words(self):
        for one in directions(3):
            for other in directions(3):
                for thing in directions(2):
                    self.told(one, other, thing)

    def told(self, one, other, thing):
        if turn(one, other) <= 0:
            refused(self, lambda: parts(one, other, thing))
            return
        told = parts(one, other, thing)
        of_one, of_other = Fraction(turn(thing, other), turn(one, other)), Fraction(turn(one, thing), turn(one, other))
        self.assertEqual((of_one * one[0] + of_other * other[0], of_one * one[1] + of_other * other[1]), thing)
        if of_one < 0 or of_other < 0:
            self.assertIsNone(told)
        else:
            self.assertEqual(told, (fraction_of(of_one), fraction_of(of_other)))
            self.assertEqual([told.__class__, is_fraction(told[0]), is_fraction(told[1])], [tuple, True, True])

    def test_what_is_looked_at_stays_as_it_is(self):
        for thing in odd_things() + [(1, 2), (3, -1)]:
            before = copy.deepcopy(thing)
            told = parts((2, 1), (-1, 3), thing)
            self.assertEqual(thing, before)
            self.assertEqual(parts((2, 1), (-1, 3), thing), told)

    def test_names_of_the_arguments(self):
        self.assertEqual(parts(one=(1, 0), other=(0, 1), thing=(2, 3)), ((2, 1), (3, 1)))


def plain_between(one, other):
    """All least directions by the words: those further off than the one and the other together are sums."""
    def lies_between(thing):
        return thing != (0, 0) and turn(thing, other) >= 0 and turn(one, thing) >= 0

    size = max(abs(number) for number in one + other)
    near = [thing for thing in directions(2 * size) if lies_between(thing)]
    near = [thing for thing in near if turn(thing, other) <= turn(one, other) and turn(one, thing) <= turn(one, other)]
    least = [thing for thing in near if not any(lies_between((thing[0] - a, thing[1] - b)) for a, b in near)]
    # The further round, the more of the other there is for as much of the one.
    return sorted(least, key=lambda thing: Fraction(turn(one, thing), turn(thing, other) + turn(one, thing)))


class Between(unittest.TestCase):
    def test_next_to_one_another(self):
        self.assertEqual(between((1, 0), (0, 1)), [(1, 0), (0, 1)])
        self.assertEqual(between((2, 1), (1, 1)), [(2, 1), (1, 1)])
        self.assertEqual(between((60, 59), (-59, -58)), [(60, 59), (-59, -58)])

    def test_common_divisors(self):
        self.assertEqual(between((5, 0), (0, 7)), [(1, 0), (0, 1)])
        self.assertEqual(between((-60, 60), (-60, -60)), [(-1, 1), (-1, 0), (-1, -1)])
        self.assertEqual(between((4, 2), (2, 4)), [(2, 1), (1, 1), (1, 2)])

    def test_great_turns(self):
        self.assertEqual(between((1, 0), (1, 60)), [(1, k) for k in range(61)])
        self.assertEqual(between((1, -60), (1, 60)), [(1, k) for k in range(-60, 61)])
        self.assertEqual(between((60, 1), (1, 60)), [(60 - k, 1) for k in range(60)] + [(1, k) for k in range(2, 61)])

    def test_more_than_a_quarter_round(self):
        self.assertEqual(between((1, 0), (-7, 3)), [(1, 0), (-2, 1), (-7, 3)])
        self.assertEqual(between((1, 0), (-60, 1)), [(1, 0), (-60, 1)])
        self.assertEqual(between((1, 0), (-59, 60)), [(1, 0), (0, 1)] + [(-k, k + 1) for k in range(1, 60)])

    def test_in_each_quarter(self):
        a, b = (3, 1), (1, 2)
        for quarter in range(4):
            told = between(a, b)
            self.assertEqual(told, plain_between(a, b))
            a, b = (-a[1], a[0]), (-b[1], b[0])

    def test_no_turn(self):
        for one, other in NO_TURNS:
            refused(self, lambda: between(one, other))

    def test_by_the_words(self):
        for one in directions(3):
            for other in directions(3):
                if turn(one, other) > 0:
                    self.assertEqual(between(one, other), plain_between(one, other), (one, other))
                else:
                    refused(self, lambda: between(one, other))

    def test_what_follows_one_another(self):
        some = [(60, -59), (-60, 7), (13, 60), (-31, -60), (48, 36), (1, 60), (-60, -1), (29, -30), (7, 0), (0, -55)]
        for one in some:
            for other in some:
                if turn(one, other) > 0:
                    self.follows(one, other, between(one, other))

    def follows(self, one, other, told):
        for end, direction in ((told[0], one), (told[-1], other)):
            shared = math.gcd(*direction)
            self.assertEqual((shared * end[0], shared * end[1]), direction)
        for before, here in zip(told, told[1:]):
            self.assertEqual(turn(before, here), 1, (one, other))
        for before, here, behind in zip(told, told[1:], told[2:]):
            # The two beside it come to so many times it; were this 1, it would be their sum.
            both = (before[0] + behind[0], before[1] + behind[1])
            self.assertGreaterEqual(both[0] // here[0] if here[0] else both[1] // here[1], 2, (one, other))

    def test_each_direction_between_is_a_sum(self):
        one, other = (7, -3), (-2, 9)
        told = between(one, other)
        for thing in directions(12):
            if parts(one, other, thing) is not None:
                shares = [parts(before, here, thing) for before, here in zip(told, told[1:])]
                self.assertTrue([share for share in shares if share and share[0][1] == share[1][1] == 1], thing)

    def test_great_numbers(self):
        self.assertEqual(between((GREAT, 1), (-1, 0)), [(GREAT, 1), (-1, 0)])
        self.assertEqual(between((GREAT, 0), (0, GREAT)), [(1, 0), (0, 1)])

    def test_the_list_is_the_askers_own(self):
        told = between((3, 1), (-2, 5))
        before = list(told)
        told.reverse()
        told.append(None)
        self.assertEqual(between((3, 1), (-2, 5)), before)
        self.assertIsNot(between((3, 1), (-2, 5)), between((3, 1), (-2, 5)))

    def test_names_of_the_arguments(self):
        self.assertEqual(between(one=(1, 0), other=(0, 1)), [(1, 0), (0, 1)])


if __name__ == "__main__":
    unittest.main()
