"""What is left behind so many rounds, and the hull of the whole places in which the rounds end."""

from roundcuts.errors import NoNumber
from roundcuts.fields import need_field
from roundcuts.fractions import is_whole
from roundcuts.levels import all_levels
from roundcuts.pieces import places_of
from roundcuts.rows import keeps


def behind(field, many):
    need_field(field)
    if not is_whole(many) or not 0 <= many <= 40:
        raise NoNumber("so many rounds are a whole number from 0 to 40")
    return corners_behind(field, many)


def corners_behind(field, many):
    """Of a field, behind any number of rounds; those beyond the wanted ones leave all as it is."""
    lists = all_rounds(field)
    return lists[min(many, len(lists) - 1)]


def all_rounds(field):
    need_field(field)
    return [places_of(level.piece) for level in all_levels(field)]


def whole_places(field):
    return [whole_place(point) for point in whole_points(field)]


def whole_place(point):
    x, y = point
    return ((x, 1), (y, 1))


def whole_points(field):
    """The whole places that a field leaves as pairs of whole numbers, rising."""
    need_field(field)
    # No corner of a field lies further off than twelve, so nothing that it leaves does.
    points = [(x, y) for x in range(-12, 13) for y in range(-12, 13)]
    return [(x, y) for x, y in points if all([a * x + b * y <= c for a, b, c in field])]


def hull(field):
    points = whole_points(field)
    if len(points) > 1:
        points = half_hull(points) + half_hull(points[::-1])
    return [whole_place(point) for point in points]


def half_hull(points):
    """The hull's corners from the first point on round to the left, up to the last one, which is left out."""
    bend = []
    for point in points:
        while len(bend) > 1 and not is_left_turn(bend[-2], bend[-1], point):
            bend.pop()
        bend.append(point)
    return bend[:-1]


def is_left_turn(one, other, third):
    return (other[0] - one[0]) * (third[1] - one[1]) > (other[1] - one[1]) * (third[0] - one[0])


def lost_behind(field, place):
    need_field(field)
    for many, level in enumerate(all_levels(field)):
        if not all([keeps(row, place) for row in level.rows]):
            return many
    return None
