"""What is left of a field behind round after round, and the rows from which each cut came.

A level is what is left behind so many rounds. Its piece is held as in roundcuts.pieces.
"""

from roundcuts.pieces import beyond, cut_down, piece_left
from roundcuts.sides import direction_of, sides_among
from roundcuts.turns import between


class Level:
    """Some rows, the piece that they leave, and the cuts of the round that led here, each with its two rows."""

    def __init__(self, rows, piece, cuts):
        self.rows = rows_wanted(rows, piece)
        self.piece = piece
        self.cuts = cuts


def rows_wanted(rows, piece):
    """Of the rows that leave the piece some that are enough for it."""
    if not piece:
        return rows
    # A row that is tight at no corner leaves out nothing. Where there are three corners or more two sides meet at
    # each, and a row that is tight at one alone leaves out nothing that the rows along these sides don't.
    least = 2 if len(piece) > 2 else 1
    return [row for row in rows if len(tight_corners(row, piece)) >= least]


def tight_corners(row, piece):
    return [corner for corner in piece if beyond(row, corner) == 0]


def all_levels(field):
    """The levels of a field, from no round on, up to and with the first one in which no corner is broken."""
    levels = [Level(each_once(list(field)), piece_left(field), {})]
    while has_broken(levels[-1].piece):
        levels.append(next_level(levels[-1]))
    return levels


def each_once(rows):
    return list({row: True for row in rows})


def has_broken(piece):
    return any([corner[2] != 1 for corner in piece])


def next_level(level):
    cuts = cuts_of(level)
    made = list(cuts)
    return Level(each_once(level.rows + made), cut_down(level.piece, made), cuts)


def cuts_of(level):
    """The cuts for the least directions between rows side by side at each broken corner, each with these two rows.

    Whole numbers of times together they come to each other cut there, or to one that leaves less. At a whole corner
    nothing is rounded, so the rows themselves leave no more.
    """
    cuts = {}
    for corner in level.piece:
        for pair in pairs_at(level.rows, corner) if corner[2] != 1 else []:
            for direction in between(direction_of(pair[0]), direction_of(pair[1])):
                cuts.setdefault(cut_at(direction, corner), pair)
    return cuts


def pairs_at(rows, corner):
    """The rows that stand side by side at a corner of what they leave."""
    numbers = [number for number, row in enumerate(rows) if beyond(row, corner) == 0]
    return [(rows[one], rows[other]) for one, other in sides_among(rows, numbers)]


def cut_at(direction, corner):
    """The row of this direction that is tight at the corner, rounded down."""
    a, b = direction
    x, y, bottom = corner
    return (a, b, (a * x + b * y) // bottom)
