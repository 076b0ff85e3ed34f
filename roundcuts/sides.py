"""Which rows of a field stand side by side at a corner, and the weights by which two rows come to a direction.

Each direction in which a corner is the furthest place that is left lies between two rows side by side there; and
each direction does so at some corner, where anything is left.
"""

from roundcuts.corners import tight_numbers
from roundcuts.rows import turn_to
from roundcuts.turns import parts


def sides_at(field, place):
    """Pairs of numbers of rows tight at the place: the second is the next one to the left of the first."""
    return sides_among(field, tight_numbers(field, place))


def sides_among(rows, numbers):
    """The same of the numbers of all rows that are tight at some place."""
    pairs = []
    for number in numbers:
        beside = next_to_the_left(rows, numbers, number)
        if beside is not None:
            pairs.append((number, beside))
    return pairs


def next_to_the_left(rows, numbers, number):
    """Less than half a turn away; None where there is no such row."""
    nearest = None
    for other in numbers:
        if turn_to(rows[number], rows[other]) > 0:
            if nearest is None or turn_to(rows[other], rows[nearest]) > 0:
                nearest = other
    return nearest


def direction_of(row):
    return (row[0], row[1])


def weights_towards(field, pair, direction):
    """Weights by which the two rows alone come to the direction; None where it is not between them."""
    one, other = pair
    shares = parts(direction_of(field[one]), direction_of(field[other]), direction)
    if shares is None:
        return None
    weights = [(0, 1)] * len(field)
    weights[one], weights[other] = shares
    return tuple(weights)


def weights_of_row(field, number):
    """Weights by which the row alone is the sum."""
    weights = [(0, 1)] * len(field)
    weights[number] = (1, 1)
    return tuple(weights)
