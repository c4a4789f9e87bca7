"""Tables over none to three places, and what can be done to one."""

from gatepapers.bits import bits_of, is_whole, number_of

MOST_PLACES = 3


def is_table(thing, many):
    """Whether a thing is a table over so many places; of anything."""
    if not is_whole(thing) or not is_whole(many):
        return False
    if many < 0 or many > MOST_PLACES:
        return False
    return 0 <= thing < 1 << (1 << many)


def told(table, bits):
    """The bit that a table tells of its places' bits."""
    return (table >> number_of(bits)) & 1


def all_bits(many):
    """Each list of so many bits, in the order of a table's figures from the lowest on."""
    return [bits_of(number, many) for number in range(1 << many)]


def hangs(table, many, k):
    """Whether there are bits for the other places at which place k changes what is told."""
    return fixed(table, many, k, 0) != fixed(table, many, k, 1)


def fixed(table, many, k, bit):
    """The table over one place less, place k having the bit."""
    return number_of([told(table, bits[:k] + [bit] + bits[k:]) for bits in all_bits(many - 1)])


def joined(table, many, k, j):
    """The table over one place less, place j having what place k, below it, has."""
    return number_of([told(table, bits[:j] + [bits[k]] + bits[j:]) for bits in all_bits(many - 1)])


def flipped(table, many, k):
    """The table that reads place k the other way."""
    return number_of([told(table, bits[:k] + [1 - bits[k]] + bits[k + 1:]) for bits in all_bits(many)])


def ordered(table, order):
    """The table whose place i is the old one's place order[i]."""
    many = len(order)
    news = [order.index(place) for place in range(many)]
    return number_of([told(table, [bits[new] for new in news]) for bits in all_bits(many)])
