"""Directions (a, b), the turn from one to another, and the least directions between two."""

from roundcuts.errors import NoTurn
from roundcuts.fractions import are_whole, greatest_divisor, lowest
from roundcuts.rows import turn_to


def parts(one, other, thing):
    turn = need_turn(one, other)
    if not is_direction(thing):
        return None
    of_one, of_other = turn_to(thing, other), turn_to(one, thing)
    if of_one < 0 or of_other < 0:
        return None
    return (lowest(of_one, turn), lowest(of_other, turn))


def need_turn(one, other):
    """The turn from the one to the other; to be called ahead of all else."""
    turn = turn_to(one, other)
    if turn <= 0:
        raise NoTurn("the second direction does not lie to the left of the first")
    return turn


def is_direction(thing):
    if not isinstance(thing, tuple) or len(thing) != 2 or not are_whole(thing):
        return False
    return thing[0] != 0 or thing[1] != 0


def between(one, other):
    need_turn(one, other)
    first, last = undivided(one), undivided(other)
    found = [first, next_least(first, last)]
    while found[-1] != last:
        found.append(next_behind(found[-2], found[-1], last))
    return found


def undivided(direction):
    """The direction without a common divisor."""
    a, b = direction
    shared = greatest_divisor(a, b)
    return (a // shared, b // shared)


def next_least(first, last):
    """Of the directions to which the turn from the first is 1, the one that is nearest to the last, not behind it."""
    a, b = first
    p, q = makes_one(a, b)
    # The turn from the first to (-q, p) is a p + b q, and no multiple of the first changes it.
    back = turn_to((-q, p), last) // turn_to(first, last)
    return (-q - back * a, p - back * b)


def next_behind(before, here, last):
    """The least direction behind two that follow one another; here is not the last one."""
    # The turn from here to (many here - before) is 1 too. The least many that does not lead behind the last one.
    many = -(-turn_to(before, last) // turn_to(here, last))
    return (many * here[0] - before[0], many * here[1] - before[1])


def makes_one(a, b):
    """Whole numbers (p, q) with a p + b q = 1, where no number above 1 divides a and b."""
    here, p, q = a, 1, 0
    ahead, next_p, next_q = b, 0, 1
    while ahead != 0:
        many = here // ahead
        here, ahead = ahead, here - many * ahead
        p, next_p = next_p, p - many * next_p
        q, next_q = next_q, q - many * next_q
    # What is left of a and b is 1 or -1.
    return (here * p, here * q)
