"""Values: what kinds of integers, sequences and fractions are passed, and what is reckoned with them."""

from math import gcd


def is_integer(thing):
    """Tell whether the thing, any object, is an integer and no flag."""
    return isinstance(thing, int) and not isinstance(thing, bool)


def is_sequence(thing):
    """Tell whether the thing, any object, is a list or a tuple."""
    return isinstance(thing, (list, tuple))


def is_within(thing, least, most):
    """Tell whether the thing, any object, is an integer from the least to the most."""
    return is_integer(thing) and least <= thing <= most


def is_fraction(thing):
    """Tell whether the thing, any object, is a fraction from 0 on."""
    if not isinstance(thing, tuple) or len(thing) != 2:
        return False
    top, bottom = thing
    if not is_integer(top) or not is_integer(bottom):
        return False
    return top >= 0 and bottom >= 1 and gcd(top, bottom) == 1


def fraction(top, bottom):
    """The fraction that is the top divided by the bottom, integers from 0 and from 1 on."""
    common = gcd(top, bottom)
    return top // common, bottom // common


def power(base, exponent):
    """The product of so many times the base."""
    result = 1
    while exponent:
        if exponent & 1:
            result *= base
        base *= base
        exponent >>= 1
    return result
