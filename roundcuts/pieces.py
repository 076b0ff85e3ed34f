"""Pieces of the plane that rows leave, as lists of their corners, on round to the left.

A corner is held here as three whole numbers (x, y, bottom), bottom from 1 on, which no number above 1 divides all:
so rows cut a piece in whole numbers alone.
"""

from roundcuts.fractions import greatest_divisor, lowest

# Two rows of a field meet at x = (c e - f b) : (a e - b d), likewise y, and so at no more than 2 * 1000 * 30.
FAR = 60001


def corners_left(rows):
    """The corners of what the rows leave, as places; some rows of a field's size must go all round."""
    return places_of(piece_left(rows))


def piece_left(rows):
    """What the rows leave of a box that all corners of rows of a field's size lie in."""
    return cut_down([(-FAR, -FAR, 1), (FAR, -FAR, 1), (FAR, FAR, 1), (-FAR, FAR, 1)], rows)


def cut_down(piece, rows):
    for row in rows:
        piece = cut_piece(piece, row)
    return piece


def places_of(piece):
    return [(lowest(x, bottom), lowest(y, bottom)) for x, y, bottom in from_least(piece)]


def cut_piece(piece, row):
    """What is left of a piece by one row more."""
    left = []
    for at, corner in enumerate(piece):
        before = piece[at - 1]
        if beyond(row, before) * beyond(row, corner) < 0:
            crossing = where_crossed(row, before, corner)
            # A stretch is gone along forth and back, and so crossed at the same place twice.
            if crossing not in left:
                left.append(crossing)
        if beyond(row, corner) <= 0:
            left.append(corner)
    return left


def beyond(row, corner):
    """Above 0 where the corner does not keep the row, 0 where the row is tight there."""
    a, b, c = row
    x, y, bottom = corner
    return a * x + b * y - c * bottom


def where_crossed(row, one, other):
    """Where the row is tight between two corners, of which just one keeps it."""
    one_off, other_off = abs(beyond(row, one)), abs(beyond(row, other))
    x, y, bottom = [other_off * here + one_off * there for here, there in zip(one, other)]
    shared = greatest_divisor(greatest_divisor(x, y), bottom)
    return (x // shared, y // shared, bottom // shared)


def from_least(piece):
    """The same round, begun at the corner with the least x, of those the least y."""
    start = 0
    for at, corner in enumerate(piece):
        if is_ahead(corner, piece[start]):
            start = at
    return piece[start:] + piece[:start]


def is_ahead(one, other):
    return (one[0] * other[2], one[1] * other[2]) < (other[0] * one[2], other[1] * one[2])
