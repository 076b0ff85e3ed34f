"""Fields moved and turned, their sides, and fields in fields."""

from roundcuts.corners import corners
from roundcuts.errors import NoNumber, NoTurn
from roundcuts.fields import need_field
from roundcuts.fractions import are_whole, is_whole
from roundcuts.rows import keeps, value


def moved(field, u, v):
    need_field(field)
    if not is_step(u) or not is_step(v):
        raise NoNumber("a field is moved by two whole numbers from -24 to 24")
    return as_field([(a, b, c + a * u + b * v) for a, b, c in field])


def is_step(thing):
    return is_whole(thing) and abs(thing) <= 24


def as_field(rows):
    """The tuple of the rows, refused where it is no field."""
    field = tuple(rows)
    need_field(field)
    return field


def need_turn_of_four(thing):
    if not isinstance(thing, tuple) or len(thing) != 4 or not are_whole(thing):
        raise NoTurn("a turn is a tuple of four whole numbers")
    if any([abs(number) > 30 for number in thing]) or abs(turn_size(thing)) != 1:
        raise NoTurn("a turn has numbers from -30 to 30, and its size is 1 or -1")


def turn_size(turn):
    p, q, r, s = turn
    return p * s - q * r


def led_to(turn, place):
    need_turn_of_four(turn)
    p, q, r, s = turn
    return (value((p, q, 0), place), value((r, s, 0), place))


def turn_back(turn):
    need_turn_of_four(turn)
    p, q, r, s = turn
    size = turn_size(turn)
    return (s * size, -q * size, -r * size, p * size)


def turned(field, turn):
    need_field(field)
    p, q, r, s = turn_back(turn)
    return as_field([(a * p + b * r, a * q + b * s, c) for a, b, c in field])


def side(field, k):
    need_field(field)
    if not is_whole(k) or not 0 <= k < len(field):
        raise NoNumber("the field has no row of this number")
    a, b, c = field[k]
    # Of eight rows this is no field, as nine are too many; else it always is one.
    return as_field(list(field) + [(-a, -b, -c)])


def is_within(one, other):
    places = corners(one)
    need_field(other)
    # What is left lies between its corners, so all of it keeps a row that they keep.
    return all([keeps(row, place) for place in places for row in other])
