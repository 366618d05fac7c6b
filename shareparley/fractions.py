"""Fractions: tuples (top, bottom), cut down as far as they go, the sign in the top."""

from shareparley.checks import is_number
from shareparley.errors import NoNumber


def greatest_divisor(one, other):
    divisor = abs(one)
    rest = abs(other)
    while rest != 0:
        left = divisor % rest
        divisor = rest
        rest = left
    return divisor


# The words of the refusals name no thing that was handed in: to show it could itself fail.
def fraction(top, bottom):
    if not is_number(top) or not is_number(bottom):
        raise NoNumber("top and bottom must be whole numbers")
    if bottom == 0:
        raise NoNumber("nothing is divided by 0")
    divisor = greatest_divisor(top, bottom)
    # A divisor with the bottom's sign takes that sign up into the top.
    if bottom < 0:
        divisor = -divisor
    return (top // divisor, bottom // divisor)


def is_fraction(thing):
    if not isinstance(thing, tuple) or len(thing) != 2:
        return False
    top = thing[0]
    bottom = thing[1]
    if not is_number(top) or not is_number(bottom):
        return False
    return bottom >= 1 and greatest_divisor(top, bottom) == 1


def plus(one, other):
    return fraction(one[0] * other[1] + other[0] * one[1], one[1] * other[1])


def minus(one, other):
    return fraction(one[0] * other[1] - other[0] * one[1], one[1] * other[1])


def times(one, other):
    return fraction(one[0] * other[0], one[1] * other[1])


def parted(one, other):
    # By (0, 1) the bottom comes to 0, which fraction refuses as is due here.
    return fraction(one[0] * other[1], one[1] * other[0])


def under(one, other):
    # Both bottoms are above 0, so multiplying by them keeps the order.
    return one[0] * other[1] < other[0] * one[1]


def common_bottom(fractions):
    """The least number that the bottom of each of the fractions goes into evenly."""
    common = 1
    for one in fractions:
        common = common * (one[1] // greatest_divisor(common, one[1]))
    return common


def tops_over(bottom, fractions):
    """What each of the fractions has for its top when it stands over a bottom that its own goes into evenly."""
    return [one[0] * (bottom // one[1]) for one in fractions]
