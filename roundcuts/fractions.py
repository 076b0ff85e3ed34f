"""Whole numbers, and fractions as tuples (top, bottom) in lowest terms, bottom from 1 on."""


def is_whole(thing):
    # Python counts True and False among the ints; here they are none.
    return isinstance(thing, int) and not isinstance(thing, bool)


def are_whole(things):
    return all([is_whole(thing) for thing in things])


def is_fraction(thing):
    if not isinstance(thing, tuple) or len(thing) != 2:
        return False
    top, bottom = thing
    return is_whole(top) and is_whole(bottom) and bottom >= 1 and greatest_divisor(top, bottom) == 1


def greatest_divisor(one, other):
    """The greatest number that divides both, whatever their signs; 0 only where both are 0."""
    one, other = abs(one), abs(other)
    while other != 0:
        one, other = other, one % other
    return one


def lowest(top, bottom):
    """The fraction top by bottom, where bottom is a whole number from 1 on."""
    shared = greatest_divisor(top, bottom)
    return (top // shared, bottom // shared)


def plus(one, other):
    return lowest(one[0] * other[1] + other[0] * one[1], one[1] * other[1])


def times(whole, fraction):
    return lowest(whole * fraction[0], fraction[1])


def is_less(one, other):
    return one[0] * other[1] < other[0] * one[1]
