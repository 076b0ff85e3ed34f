"""Rows (a, b, c), each telling that a x + b y is at most c."""

from roundcuts.fractions import are_whole, greatest_divisor, plus, times


def is_row(thing):
    if not isinstance(thing, tuple) or len(thing) != 3 or not are_whole(thing):
        return False
    return thing[0] != 0 or thing[1] != 0


def value(row, place):
    return plus(times(row[0], place[0]), times(row[1], place[1]))


def keeps(row, place):
    top, bottom = value(row, place)
    return top <= row[2] * bottom


def is_tight(row, place):
    top, bottom = value(row, place)
    return top == row[2] * bottom


def shortened(row):
    a, b, c = row
    shared = greatest_divisor(a, b)
    return (a // shared, b // shared, c // shared)


def turn_to(one, other):
    """Above 0 where the direction of the other row lies to the left of that of the one."""
    return one[0] * other[1] - one[1] * other[0]


def go_round(rows):
    if len(rows) == 0:
        return False
    first = rows[0]
    left = furthest(first, rows, 1)
    right = furthest(first, rows, -1)
    if left is None or right is None:
        return False
    # Rows fail to go all round just where half a turn or more lies empty between two of them.
    # Only behind the furthest ones can so much lie empty, unless a row points straight back.
    return turn_to(left, right) > 0 or points_back(first, rows)


def furthest(first, rows, sign):
    """Of the rows less than half a turn to the left (sign 1) or right (sign -1) of the first, the last one, or None."""
    last = None
    for row in rows:
        if sign * turn_to(first, row) > 0 and (last is None or sign * turn_to(last, row) > 0):
            last = row
    return last


def points_back(first, rows):
    for row in rows:
        if turn_to(first, row) == 0 and first[0] * row[0] + first[1] * row[1] < 0:
            return True
    return False
