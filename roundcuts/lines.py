"""Ways: lists of lines, each a sum of the field's rows and of lines ahead, perhaps rounded down.

A share is how many times a row is taken; shares are a dict of fractions by rows.
"""

from roundcuts.clashes import clash_shares
from roundcuts.fractions import plus, times
from roundcuts.levels import pairs_at
from roundcuts.rows import turn_to
from roundcuts.sides import direction_of
from roundcuts.sums import whole_sum
from roundcuts.turns import parts


def way_by(field, levels, shares, row):
    """A way whose last line's row is this one, by shares of rows of the last of some levels, from the first on.

    A cut of a round is a sum of rows that were left before, rounded down: so each line's depth is at most the number
    of rounds behind which its row was first there.
    """
    numbers = first_numbers(field)
    pairs = pairs_of_cuts(levels, numbers)
    lines = []
    for cut in cuts_needed(pairs, shares):
        lines.append((weights_by(numbers, pair_shares(pairs[cut], cut), len(field) + len(lines)), cut))
        numbers[cut] = len(field) + len(lines) - 1
    lines.append((weights_by(numbers, shares, len(field) + len(lines)), row))
    return lines


def first_numbers(rows):
    """The number of each row; of like ones that of the first."""
    numbers = {}
    for number, row in enumerate(rows):
        numbers.setdefault(row, number)
    return numbers


def pairs_of_cuts(levels, known):
    """All cuts of the levels that are not known rows, each behind the two rows from which it first came."""
    pairs = {}
    for level in levels:
        for cut, pair in level.cuts.items():
            if cut not in known:
                pairs.setdefault(cut, pair)
    return pairs


def cuts_needed(pairs, shares):
    """Of all cuts those on which the shares hang, in order."""
    needed = {row: True for row in shares}
    for cut in reversed(list(pairs)):
        if cut in needed:
            needed.update({row: True for row in pair_shares(pairs[cut], cut)})
    return [cut for cut in pairs if cut in needed]


def pair_shares(pair, row):
    """Shares of the two rows, those above 0, that come to the row's direction; None where it is not between them."""
    one, other = pair
    many = parts(direction_of(one), direction_of(other), direction_of(row))
    if many is None:
        return None
    return {taken: share for taken, share in zip(pair, many) if share[0] > 0}


def weights_by(numbers, shares, many):
    """Weights, so many in all, that take each row by its share."""
    weights = [(0, 1)] * many
    for row, share in shares.items():
        weights[numbers[row]] = share
    return tuple(weights)


def shares_towards(field, level, row):
    """Shares of rows of the level, or the field, that come to the row's direction and a c that is no greater.

    All that is left at the level keeps the row.
    """
    if level.piece:
        # Each direction is between two rows side by side at the corner that lies furthest that way.
        return first_shares([pair for corner in level.piece for pair in pairs_at(level.rows, corner)], row)
    shares = first_shares([(one, other) for one in field for other in field if turn_to(one, other) > 0], row)
    tops, bottom = whole_sum(list(shares), list(shares.values()))
    # Where nothing is left some rows come to 0, 0 and a whole number below 0, which brings any c down.
    too_many = max(0, -(-tops[2] // bottom) - row[2])
    for clash, share in clash_shares(level.rows).items():
        shares[clash] = plus(shares.get(clash, (0, 1)), times(too_many, share))
    return shares


def first_shares(pairs, row):
    """Shares of the first pair that the row's direction is between."""
    found = [pair_shares(pair, row) for pair in pairs]
    fitting = [shares for shares in found if shares is not None]
    return fitting[0]
