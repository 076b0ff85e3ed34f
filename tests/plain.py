"""Fields to ask about, and their corners reckoned straight by the document's words, with Python's own fractions."""

import functools
import itertools
import random
from fractions import Fraction

BOX = ((1, 0, 4), (-1, 0, 0), (0, 1, 3), (0, -1, 0))
HALF_BOX = ((2, 0, 3), (-2, 0, 1), (0, 2, 5), (0, -2, 3))
TRIANGLE = ((-1, 0, 0), (0, -1, 0), (1, 1, 5))
BROKEN_TRIANGLE = ((-3, 0, -1), (0, -3, -1), (2, 2, 7))
# Two long sides with hardly a turn between them, and a short one.
SPIKE = ((-3, 1, 0), (3, 1, 6), (0, -2, -1))
LONG_SPIKE = ((-20, 1, 0), (20, 1, 20), (0, -1, 0))
EIGHT = ((2, 0, 9), (0, 2, 9), (-2, 0, 9), (0, -2, 9), (1, 1, 7), (-1, 1, 7), (1, -1, 7), (-1, -1, 7))
ONE_PLACE = ((1, 0, 2), (-1, 0, -2), (0, 1, -3), (0, -1, 3))
ONE_BROKEN_PLACE = ((2, 0, 1), (-2, 0, -1), (0, 3, 2), (0, -3, -2))
PINNED = ((2, 3, 5), (-3, 1, -2), (1, -4, -3), (1, 1, 2))
STRETCH = ((1, 1, 3), (-1, -1, -3), (-1, 0, 0), (0, -1, 0))
BROKEN_STRETCH = ((2, 0, 1), (-2, 0, -1), (0, 2, 7), (0, -2, 1))
NO_PLACE = ((1, 0, -1), (-1, 0, -1), (0, 1, 5), (0, -1, 5))
NO_PLACE_OF_THREE = ((1, 1, -1), (-1, 0, 0), (0, -1, 0))
TWICE = TRIANGLE + TRIANGLE
DOUBLED = ((2, 0, 5), (4, 0, 10), (-1, 0, 0), (0, -1, 0), (0, 3, 5), (0, 3, 5))
# Three and more rows are tight at (0, 0) and at (5/2, 5/2).
CROWDED = ((-1, 0, 0), (0, -1, 0), (-1, -1, 0), (2, 0, 5), (0, 2, 5), (1, 1, 5), (3, 1, 10))
# Thirty rounds: whole places are left at its foot alone. Of the next one none are.
TALL_SPIKE = ((-30, 1, -3), (30, 1, 27), (0, -1, 12))
EMPTY_SPIKE = ((-24, 1, 0), (24, 1, 24), (0, -2, -1))
LYING_SPIKE = ((1, 9, 7), (1, -8, 3), (-2, 1, 8))
SLANT_SPIKE = ((5, -4, 3), (-4, 5, 3), (-2, -3, 7))
BETWEEN_LINES = ((3, 0, 2), (-3, 0, -1), (0, 1, 4), (0, -1, 4))
# No whole place is left, which two rounds show, and one does not.
SLANT_SQUARE = ((2, 2, 3), (-2, -2, -1), (2, -2, 1), (-2, 2, 1))
EMPTY_TRIANGLE = ((-2, -6, 3), (-6, 4, -2), (2, 2, 1))

FIELDS = {
    "box": BOX, "half box": HALF_BOX, "triangle": TRIANGLE, "broken triangle": BROKEN_TRIANGLE, "spike": SPIKE,
    "long spike": LONG_SPIKE, "eight": EIGHT, "one place": ONE_PLACE, "one broken place": ONE_BROKEN_PLACE,
    "pinned": PINNED, "stretch": STRETCH, "broken stretch": BROKEN_STRETCH, "no place": NO_PLACE,
    "no place of three": NO_PLACE_OF_THREE, "twice": TWICE, "doubled": DOUBLED, "crowded": CROWDED,
}
DEEP_FIELDS = {
    "tall spike": TALL_SPIKE, "empty spike": EMPTY_SPIKE, "lying spike": LYING_SPIKE, "slant spike": SLANT_SPIKE,
    "between lines": BETWEEN_LINES, "slant square": SLANT_SQUARE, "empty triangle": EMPTY_TRIANGLE,
}


def fraction_of(number):
    number = Fraction(number)
    return (number.numerator, number.denominator)


def place_of(x, y):
    return (fraction_of(x), fraction_of(y))


def point_of(place):
    return tuple(Fraction(top, bottom) for top, bottom in place)


def goes_round(rows):
    """Directions that no row stops reach up to one that stands straight on a row, so these are tried."""
    tried = [(sign * b, -sign * a) for a, b, c in rows for sign in (1, -1)] + [(1, 0)]
    return all(any(a * u + b * v > 0 for a, b, c in rows) for u, v in tried)


def points_kept(rows):
    """The places that keep all rows at which two rows with a turn are tight, as pairs of fractions."""
    found = set()
    for (a, b, c), (d, e, f) in itertools.combinations(rows, 2):
        turn = a * e - b * d
        if turn:
            x, y = Fraction(c * e - f * b, turn), Fraction(a * f - d * c, turn)
            if all(g * x + h * y <= k for g, h, k in rows):
                found.add((x, y))
    return found


def in_order(points):
    """From the least point on round to the left; none of them lies between two others."""
    if not points:
        return []
    first = min(points)

    def turned(one, other):
        turn = (one[0] - first[0]) * (other[1] - first[1]) - (one[1] - first[1]) * (other[0] - first[0])
        return -1 if turn > 0 else 1

    return [first] + sorted(set(points) - {first}, key=functools.cmp_to_key(turned))


def plain_corners(rows):
    return [place_of(x, y) for x, y in in_order(points_kept(rows))]


def plain_sum(rows, weights):
    """The three sums by weights that may be fractions of either sort."""
    by = [weight if isinstance(weight, Fraction) else Fraction(*weight) for weight in weights]
    return tuple(sum((row[at] * share for row, share in zip(rows, by)), Fraction(0)) for at in range(3))


def two_row_cuts(field):
    """All cuts by one or two rows, with a turn between them, by weights below 1: a dict of the least c by (a, b)."""
    cuts = {}
    for one, other in itertools.permutations(field, 2):
        for (a, b), weights in directions_within(one, other):
            c = plain_sum((one, other), weights)[2].__floor__()
            cuts[a, b] = min(c, cuts.get((a, b), c))
    return cuts


def directions_within(one, other):
    """All directions that are so many times the one and the other together, both below 1, where a turn is above 0."""
    (a, b, *more), (d, e, *more) = one, other
    turn = a * e - b * d
    if turn <= 0:
        return
    for x in range(min(0, a) + min(0, d), max(0, a) + max(0, d) + 1):
        for y in range(min(0, b) + min(0, e), max(0, b) + max(0, e) + 1):
            of_one, of_other = x * e - y * d, a * y - b * x
            if (x, y) != (0, 0) and 0 <= of_one < turn and 0 <= of_other < turn:
                yield (x, y), (Fraction(of_one, turn), Fraction(of_other, turn))


def plain_corners_behind(field, cuts):
    """The corners of what the field's rows and the cuts leave, as places, of more cuts than could go by pairs."""
    rows = list(field)
    points = points_kept(rows)
    for a, b, c in cuts:
        if any(a * x + b * y > c for x, y in points):
            rows.append((a, b, c))
            points = points_kept(rows)
            if not points:
                return []
            # A row that is tight at no corner leaves out nothing that the others don't.
            rows = [(d, e, f) for d, e, f in rows if any(d * x + e * y == f for x, y in points)]
    return [place_of(x, y) for x, y in in_order(points)]


def clipped(points, row):
    """What is left by the row of what has these corners, in order: its own corners, in order."""
    a, b, c = row
    over = [a * x + b * y - c for x, y in points]
    if all(off <= 0 for off in over):
        return points
    found = {point for point, off in zip(points, over) if off <= 0}
    for at, (x, y) in enumerate(points):
        (u, v), off, before = points[at - 1], over[at], over[at - 1]
        if off * before < 0:
            found.add(((x * before - u * off) / (before - off), (y * before - v * off) / (before - off)))
    return in_order(found)


def plain_rounds(field, more=0):
    """The lists of corners from no round on up to the first without a broken one, as places, by the words.

    Each round is all rows up to the field's greatest a or b, or so many more, at what was left before, rounded down.
    """
    size = more + max(abs(number) for a, b, c in field for number in (a, b))
    asked = [(a, b) for a in range(-size, size + 1) for b in range(-size, size + 1) if (a, b) != (0, 0)]
    points = in_order(points_kept(field))
    lists = [points]
    while any(x.denominator > 1 or y.denominator > 1 for x, y in points):
        cuts = [(a, b, max(a * x + b * y for x, y in points).__floor__()) for a, b in asked]
        points = functools.reduce(clipped, cuts, points)
        lists.append(points)
    return [[place_of(x, y) for x, y in points] for points in lists]


def plain_moved(field, u, v):
    return tuple((a, b, c + a * u + b * v) for a, b, c in field)


def plain_turned(field, turn):
    """By the turn that leads back."""
    p, q, r, s = turn
    return tuple((a * p + b * r, a * q + b * s, c) for a, b, c in field)


def whole_points(field):
    span = range(-12, 13)
    return [(x, y) for x in span for y in span if all(a * x + b * y <= c for a, b, c in field)]


def is_plain_field(rows):
    """Of a tuple of rows, by the words."""
    small = all(max(abs(a), abs(b)) <= 30 and abs(c) <= 1000 for a, b, c in rows)
    if not 3 <= len(rows) <= 8 or not small or not goes_round(rows):
        return False
    return all(abs(x) <= 12 and abs(y) <= 12 for x, y in points_kept(rows))


def rows_by_chance(size, seed):
    """Tuples of three to eight rows without an end, always the same ones; some of them are fields."""
    chance = random.Random(seed)
    for count in itertools.count():
        rows = []
        while len(rows) < 3 + count % 6:
            a, b, c = chance.randint(-size, size), chance.randint(-size, size), chance.randint(-2 * size, 4 * size)
            if (a, b) != (0, 0):
                rows.append((a, b, c))
        yield tuple(rows)


def some_rows(many, size, seed):
    return list(itertools.islice(rows_by_chance(size, seed), many))


def some_fields(many, size, seed):
    """Fields that leave something, a and b up to size; behind some of them one that leaves a row's stretch alone."""
    leaving = (rows for rows in rows_by_chance(size, seed) if is_plain_field(rows) and points_kept(rows))
    found = []
    for field in leaving:
        a, b, c = field[0]
        side = field + ((-a, -b, -c),)
        found += [field, side] if len(found) % 3 == 0 and is_plain_field(side) else [field]
        if len(found) >= many:
            return found[:many]
