"""Corners of what a field leaves, and what holds there."""

from roundcuts.fields import need_field
from roundcuts.fractions import is_less
from roundcuts.pieces import corners_left
from roundcuts.rows import is_tight, keeps, value


def corners(field):
    need_field(field)
    return corners_left(field)


def tight(field, place):
    need_field(field)
    return tight_numbers(field, place)


def tight_numbers(rows, place):
    return tuple([number for number, row in enumerate(rows) if is_tight(row, place)])


def broken(field):
    return [place for place in corners(field) if is_broken(place)]


def is_broken(place):
    x, y = place
    return x[1] != 1 or y[1] != 1


def greatest(field, a, b):
    # What is left lies between its corners, so no place of it has more than the corners have.
    best = None
    for place in corners(field):
        here = value((a, b, 0), place)
        if best is None or is_less(best, here):
            best = here
    return best


def holds(field, row):
    return all([keeps(row, place) for place in corners(field)])
