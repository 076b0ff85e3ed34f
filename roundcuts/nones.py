"""Fields that leave nothing, or no whole place, and what shows it."""

from roundcuts.behind import whole_points
from roundcuts.clashes import clash_shares
from roundcuts.fields import need_field
from roundcuts.levels import all_levels
from roundcuts.lines import first_numbers, way_by, weights_by
from roundcuts.pieces import piece_left
from roundcuts.sums import are_weights, whole_sum


def nothing_weights(field):
    need_field(field)
    if piece_left(field):
        return None
    return weights_by(first_numbers(field), clash_shares(field), len(field))


def shows_nothing(field, thing):
    need_field(field)
    if not are_weights(field, thing):
        return False
    tops, bottom = whole_sum(field, thing)
    return tops[0] == 0 and tops[1] == 0 and tops[2] < 0


def no_whole_place(field):
    return len(whole_points(field)) == 0


def none_behind(field):
    need_field(field)
    levels = all_levels(field)
    return None if levels[-1].piece else len(levels) - 1


def none_way(field):
    need_field(field)
    levels = all_levels(field)
    if levels[-1].piece:
        return None
    # The sum of c is a whole number below 0, so -1 is not less than it, and the last line is no deeper than its rows.
    return way_by(field, levels, clash_shares(levels[-1].rows), (0, 0, -1))
