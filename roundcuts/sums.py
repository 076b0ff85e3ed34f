"""Sums of a field's rows by weights, and the cuts that they make."""

from roundcuts.corners import corners
from roundcuts.errors import NoCut, NoWeights, Nothing
from roundcuts.fields import need_field
from roundcuts.fractions import greatest_divisor, is_fraction, lowest
from roundcuts.rows import is_row
from roundcuts.sides import sides_at, weights_towards


def sum_by(field, weights):
    need_field(field)
    if not are_weights(field, weights):
        raise NoWeights("these are no weights of the field")
    return sum_of(field, weights)


def are_weights(field, thing):
    if not isinstance(thing, tuple) or len(thing) != len(field):
        return False
    return all([is_fraction(weight) and weight[0] >= 0 for weight in thing])


def sum_of(rows, weights):
    """All a, all b and all c, each times its row's weight, together."""
    tops, bottom = whole_sum(rows, weights)
    return tuple([lowest(top, bottom) for top in tops])


def whole_sum(rows, weights):
    """The three sums as a list of their tops, and a bottom that they share, not brought to lowest terms."""
    used = [(row, weight) for row, weight in zip(rows, weights) if weight[0] != 0]
    bottom = 1
    for row, weight in used:
        bottom = bottom // greatest_divisor(bottom, weight[1]) * weight[1]
    tops = [0, 0, 0]
    for row, weight in used:
        many = bottom // weight[1] * weight[0]
        tops = [top + many * number for top, number in zip(tops, row)]
    return tops, bottom


def cut_by(field, weights):
    return cut_of(sum_by(field, weights))


def cut_of(totals):
    a, b, c = totals
    if a[1] != 1 or b[1] != 1 or a[0] == 0 and b[0] == 0:
        raise NoCut("the sums of a and of b are not whole, or both are 0")
    return (a[0], b[0], c[0] // c[1])


def is_paper(field, thing):
    need_field(field)
    if not isinstance(thing, tuple) or len(thing) != 2 or not is_row(thing[1]):
        return False
    try:
        return cut_by(field, thing[0]) == thing[1]
    except (NoWeights, NoCut):
        return False


def paper_of(field, weights):
    """The paper by weights that make a cut."""
    return (weights, cut_of(sum_of(field, weights)))


def cut_towards(field, a, b):
    places = corners(field)
    if not places:
        raise Nothing("the field leaves nothing")
    pairs = [pair for place in places for pair in sides_at(field, place)]
    towards = [weights_towards(field, pair, (a, b)) for pair in pairs]
    fitting = [weights for weights in towards if weights is not None]
    # Rows tight at a corner sum up to the value there, and no sum of rows comes to less than a value that is left.
    return paper_of(field, fitting[0])
