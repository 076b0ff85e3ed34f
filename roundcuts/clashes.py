"""Rows that leave nothing, and sums of two or three of them that show it.

A share is how many times a row is taken; shares are a dict of fractions by rows.
"""

from roundcuts.pieces import cut_piece, piece_left
from roundcuts.rows import turn_to


def clash_shares(rows):
    """Shares by which the sums of a and of b are 0 and that of c is a whole number below 0; the rows leave nothing."""
    core = clashing(rows)
    return {row: (many, 1) for row, many in zip(core, balance(core))}


def clashing(rows):
    """Two or three of the rows that leave nothing by themselves, while each fewer of them leave something."""
    core = []
    rest = list(rows)
    while piece_left(core):
        # No rows ahead of this one are enough, so it must be among the ones that are looked for.
        at = first_that_empties(core, rest)
        core.append(rest[at])
        rest = rest[:at]
    return core


def first_that_empties(core, rest):
    """The place of the first row with which the core and the rest up to there leave nothing."""
    at = 0
    piece = cut_piece(piece_left(core), rest[0])
    while piece:
        at += 1
        piece = cut_piece(piece, rest[at])
    return at


def balance(core):
    """How many times each of the clashing rows is taken, that their directions come to 0 together."""
    if len(core) == 2:
        one, other = core
        return [abs(other[0]) + abs(other[1]), abs(one[0]) + abs(one[1])]
    one, other, third = core
    return [abs(turn_to(other, third)), abs(turn_to(third, one)), abs(turn_to(one, other))]
