"""Fields: three to eight rows that go all round, with corners not far off."""

from roundcuts.errors import NoField
from roundcuts.pieces import corners_left
from roundcuts.rows import go_round, is_row


def is_field(thing):
    if not isinstance(thing, tuple) or not 3 <= len(thing) <= 8:
        return False
    if not all([is_field_row(row) for row in thing]) or not go_round(thing):
        return False
    return all([is_near(place) for place in corners_left(thing)])


def is_field_row(thing):
    if not is_row(thing):
        return False
    a, b, c = thing
    return abs(a) <= 30 and abs(b) <= 30 and abs(c) <= 1000


def is_near(place):
    return all([abs(top) <= 12 * bottom for top, bottom in place])


def need_field(thing):
    """To be called ahead of all else wherever a field is handed in."""
    if not is_field(thing):
        raise NoField("this is no field")
