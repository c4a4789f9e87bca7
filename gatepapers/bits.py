"""Whole numbers and their bits."""


def is_whole(thing):
    """Whether a thing is a whole number: truths are ints to Python, but none here."""
    return isinstance(thing, int) and not isinstance(thing, bool)


def is_below(thing, bound):
    """Whether a thing is a whole number from 0 to below a bound; of anything."""
    return is_whole(thing) and 0 <= thing < bound


def bits_of(number, width):
    """The bits of a number in a width, the lowest first."""
    return [(number >> k) & 1 for k in range(width)]


def number_of(bits):
    """The number that has these bits, the lowest first."""
    number = 0
    for k, bit in enumerate(bits):
        number += bit << k
    return number
