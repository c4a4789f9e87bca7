"""Circuits told apart: the row of ins that parts two, or the pairs of states that no turn leaves."""

from gatepapers.bits import bits_of
from gatepapers.circuits import first_of
from gatepapers.columns import all_trials, column_of, column_told
from gatepapers.errors import TooGreat, Unlike

MOST_INS = 6
MOST_PAIRS = 300


def parted(one, other):
    """The shortest, least row of ins by which two circuits tell unlike outs, or None."""
    row, found = search(one, other)
    return row


def pairs(one, other):
    """The pairs of states that two circuits come to, as they are found; None where a row of ins parts them."""
    row, found = search(one, other)
    return found if row is None else None


def search(one, other):
    """The row of ins that parts two circuits, or None, and the pairs found till then."""
    refuse_unlike(one, other)
    found = [(first_of(one), first_of(other))]
    rows = [[]]
    known = {key_of(found[0]): True}
    at = 0
    while at < len(found):
        for number, (alike, pair) in enumerate(pair_turns(one, other, found[at])):
            row = rows[at] + [rising_bits(number, one[0])]
            if not alike:
                return (row, found)
            if key_of(pair) not in known:
                refuse_many(len(found) + 1)
                known[key_of(pair)] = True
                found.append(pair)
                rows.append(row)
        at += 1
    return (None, found)


def refuse_unlike(one, other):
    """Refuse circuits with not as many ins or outs, then those with too many ins."""
    if one[0] != other[0] or len(one[3]) != len(other[3]):
        raise Unlike("the circuits have not as many ins, or not as many outs")
    if one[0] > MOST_INS:
        raise TooGreat(f"the circuits have more than {MOST_INS} ins")


def refuse_many(many):
    """Refuse too many pairs."""
    if many > MOST_PAIRS:
        raise TooGreat(f"there are more than {MOST_PAIRS} pairs of states")


def key_of(pair):
    """What a pair of states is known by."""
    return (tuple(pair[0]), tuple(pair[1]))


def rising_bits(number, many):
    """The list of so many bits that stands at a number among all such lists, as they rise."""
    return bits_of(number, many)[::-1]


def pair_turns(one, other, pair):
    """Whether the outs are alike, and the pair of next states, for each list of bits for the ins, as they rise."""
    found = []
    for (outs, after), (others, later) in zip(all_turns(one, pair[0]), all_turns(other, pair[1])):
        found.append((outs == others, (after, later)))
    return found


def all_turns(circuit, state):
    """The outs and the next state, for each list of bits for the ins, as they rise."""
    ins, memories, gates, outs = circuit
    whole = all_trials(ins)
    # The first in has the highest bit of a trial's number, as rising_bits tells it.
    columns = [column_of(ins - 1 - k, ins) for k in range(ins)] + [whole * bit for bit in state]
    for table, places in gates:
        columns.append(column_told(table, [columns[place] for place in places], whole))
    told = [columns[place] for place in outs]
    afters = [columns[after] for begin, after in memories]
    return [(trial_bits(told, number), trial_bits(afters, number)) for number in range(1 << ins)]


def trial_bits(columns, number):
    """The bits that columns have in the trial of a number."""
    return [(column >> number) & 1 for column in columns]
