"""Columns: whole numbers, of which bit t is the value that something has in trial t of several."""

from gatepapers.bits import bits_of


def all_trials(many):
    """The column that is 1 in each trial, where all bits are tried for so many things."""
    return (1 << (1 << many)) - 1


def column_of(k, many):
    """The column of thing k, where all bits are tried for so many things: in trial t it has bit k of t."""
    half = 1 << k
    column = all_trials(k) << half
    wide = half + half
    while wide < 1 << many:
        column |= column << wide
        wide += wide
    return column


def column_told(table, columns, whole):
    """The column that a table tells of its places' columns; whole is 1 in each trial."""
    found = [whole * bit for bit in bits_of(table, 1 << len(columns))]
    # Figures that stand side by side are for a 0 and a 1 of the first place that is left.
    for column in columns:
        found = [low ^ ((low ^ high) & column) for low, high in zip(found[::2], found[1::2])]
    return found[0]
