"""How deep a row lies below a field, and the ways that show it."""

from roundcuts.fields import need_field
from roundcuts.fractions import are_whole
from roundcuts.levels import all_levels
from roundcuts.lines import shares_towards, way_by
from roundcuts.pieces import beyond
from roundcuts.sums import are_weights, whole_sum


def depth_of(field, row):
    need_field(field)
    return depth_among(all_levels(field), row)


def depth_among(levels, row):
    for depth, level in enumerate(levels):
        if all([beyond(row, corner) <= 0 for corner in level.piece]):
            return depth
    # The last level is the hull, so some whole place does not keep the row.
    return None


def way_shows(field, thing):
    need_field(field)
    if not isinstance(thing, list) or not 1 <= len(thing) <= 2000:
        return None
    rows = list(field)
    depths = [0] * len(field)
    for line in thing:
        depth = line_depth(rows, depths, line)
        if depth is None:
            return None
        rows.append(line[1])
        depths.append(depth)
    return (rows[-1], depths[-1])


def line_depth(rows, depths, thing):
    """The depth of a line behind these rows, those of the field and of the lines ahead; None where it is no line."""
    if not isinstance(thing, tuple) or len(thing) != 2:
        return None
    weights, row = thing
    if not isinstance(row, tuple) or len(row) != 3 or not are_whole(row) or not are_weights(rows, weights):
        return None
    tops, bottom = whole_sum(rows, weights)
    if tops[0] != row[0] * bottom or tops[1] != row[1] * bottom or row[2] < tops[2] // bottom:
        return None
    deepest = max([depth for depth, weight in zip(depths, weights) if weight[0] != 0], default=0)
    return deepest + 1 if row[2] * bottom < tops[2] else deepest


def way_of(field, row):
    need_field(field)
    levels = all_levels(field)
    depth = depth_among(levels, row)
    if depth is None:
        return None
    return way_by(field, levels[:depth + 1], shares_towards(field, levels[depth], row), row)
