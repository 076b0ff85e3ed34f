"""A round: all cuts of a field at once."""

from roundcuts.corners import broken
from roundcuts.errors import NoCorner
from roundcuts.fields import need_field
from roundcuts.fractions import is_whole
from roundcuts.pieces import corners_left
from roundcuts.rows import keeps
from roundcuts.sides import direction_of, sides_at, weights_of_row, weights_towards
from roundcuts.sums import paper_of
from roundcuts.turns import between


def round_papers(field):
    # At a whole corner nothing is rounded, so only what the rows leave out already is cut off there.
    # A direction found at two corners has the same cut at both.
    papers = {}
    for place in broken(field):
        for paper in papers_at(field, place):
            papers.setdefault(paper[1], paper)
    return list(papers.values())


def papers_at(field, place):
    """Papers for the least directions between rows side by side at a corner.

    Their rows, whole numbers of times together, come to each cut by rows tight there, or to one that leaves less.
    Each row is the first of a pair at one corner at most. Between the two of a pair there are at most 241 least
    directions: they follow one another on one bend, and none has a number beyond 30. So a field has less than 2000.
    """
    papers = []
    for pair in sides_at(field, place):
        one, other = pair
        for direction in between(direction_of(field[one]), direction_of(field[other])):
            papers.append(paper_of(field, weights_towards(field, pair, direction)))
    return papers


def round_corners(field):
    cuts = [row for weights, row in round_papers(field)]
    return corners_left(list(field) + cuts)


def paper_against(field, place):
    need_field(field)
    # Each row is a cut; where nothing is left, each place fails to keep one of them.
    rows = [paper_of(field, weights_of_row(field, number)) for number in range(len(field))]
    for paper in rows + round_papers(field):
        if not keeps(paper[1], place):
            return paper
    return None


def corner_paper(field, number):
    places = broken(field)
    if not is_whole(number) or not 0 <= number < len(places):
        raise NoCorner("there is no broken corner of this number")
    place = places[number]
    # Two least directions that follow one another have the turn 1: at a broken corner not both have whole values.
    against = [paper for paper in papers_at(field, place) if not keeps(paper[1], place)]
    return against[0]
