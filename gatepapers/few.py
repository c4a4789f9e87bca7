"""Circuits of the fewest states."""

from gatepapers.bits import bits_of, number_of
from gatepapers.circuits import first_of
from gatepapers.errors import TooGreat
from gatepapers.flat import Bench
from gatepapers.judge import all_turns, rising_bits
from gatepapers.writing import Writer

MOST_INS = 3
MOST_MEMORIES = 5
CHOICE = 216


def fewest(circuit):
    """The circuit of the fewest states, the paper for the circuit and it, and the ways and partings of its sorts."""
    if circuit[0] > MOST_INS or len(circuit[1]) > MOST_MEMORIES:
        raise TooGreat(f"the circuit has more than {MOST_INS} ins, or more than {MOST_MEMORIES} memories")
    states, rows, turns = states_come_to(circuit)
    sorts = sorts_of(turns)
    firsts = [sorts.index(number) for number in range(max(sorts) + 1)]
    # From here on a turn leads from sort to sort.
    sort_turns = [[(outs, sorts[after]) for outs, after in turns[first]] for first in firsts]
    new = circuit_of(circuit, sort_turns)
    ways = [row_of(rows[first], circuit[0]) for first in firsts]
    return (new, paper_of(circuit, new, states, sorts), ways, partings_of(sort_turns, circuit[0]))


def row_of(numbers, ins):
    """The row of ins whose lists of bits stand at these numbers, as such lists rise."""
    return [rising_bits(number, ins) for number in numbers]


# States and their sorts.

def states_come_to(circuit):
    """The states come to as their least rows rise, these rows, and each one's turns: (outs, the next one's number).

    Rows and turns go by the numbers of the lists of bits for the ins, as they rise.
    """
    states = [tuple(first_of(circuit))]
    numbers = {states[0]: 0}
    rows = [[]]
    turns = []
    while len(turns) < len(states):
        at = len(turns)
        turns.append([])
        for number, (outs, after) in enumerate(all_turns(circuit, states[at])):
            state = tuple(after)
            if state not in numbers:
                numbers[state] = len(states)
                states.append(state)
                rows.append(rows[at] + [number])
            turns[at].append((outs, numbers[state]))
    return (states, rows, turns)


def sorts_of(turns):
    """The number of the sort of each state, by what each state's turns tell and lead to."""
    sorts = numbered([tuple([tuple(outs) for outs, after in row]) for row in turns])
    finer = parted_sorts(turns, sorts)
    while finer != sorts:
        sorts = finer
        finer = parted_sorts(turns, sorts)
    return sorts


def parted_sorts(turns, sorts):
    """The sorts, parted where turns lead to unlike ones."""
    return numbered([(own, tuple([sorts[after] for outs, after in row])) for own, row in zip(sorts, turns)])


def numbered(keys):
    """For each key its number among all unlike ones, as they come."""
    numbers = {}
    return [numbers.setdefault(key, len(numbers)) for key in keys]


def partings_of(sort_turns, ins):
    """For each two sorts, as they rise, the shortest, least row of ins that parts them."""
    found = {}
    left = [(one, other) for other in range(len(sort_turns)) for one in range(other)]
    while left:
        longer = {}
        for pair in left:
            row = parting_of(sort_turns, pair, found)
            if row is not None:
                longer[pair] = row
        # Only now: within one round all rows are of one length.
        found.update(longer)
        left = [pair for pair in left if pair not in found]
    return [(one, other, row_of(found[(one, other)], ins)) for one, other in sorted(found)]


def parting_of(sort_turns, pair, found):
    """The least row of numbers that parts two sorts, by the shorter ones that were found, or None."""
    one, other = pair
    turns = list(enumerate(zip(sort_turns[one], sort_turns[other])))
    for number, ((outs, after), (others, later)) in turns:
        if outs != others:
            return [number]
    for number, ((outs, after), (others, later)) in turns:
        following = (min(after, later), max(after, later))
        if following in found:
            return [number] + found[following]
    return None


# The new circuit, in whose memories the number of the sort stands.

def circuit_of(circuit, sort_turns):
    """The circuit whose state is the number of the sort."""
    ins = circuit[0]
    width = (len(sort_turns) - 1).bit_length()
    bench = Bench(ins + width)
    places = list(range(ins + width))
    turns = [turn_at(sort_turns, ins, number) for number in range(1 << (ins + width))]
    known = {}
    afters = []
    for k in range(width):
        told = [None if turn is None else (turn[1] >> k) & 1 for turn in turns]
        afters.append(lay_told(bench, told, places, known))
    outs = []
    for k in range(len(circuit[3])):
        told = [None if turn is None else turn[0][k] for turn in turns]
        outs.append(lay_told(bench, told, places, known))
    return (ins, [(0, after) for after in afters], bench.gates, outs)


def turn_at(sort_turns, ins, number):
    """The turn by a number of the ins' bits, the lowest ones, and a sort's; None where there is no such sort."""
    sort = number >> ins
    if sort >= len(sort_turns):
        return None
    return sort_turns[sort][number_of(bits_of(number, ins)[::-1])]


def lay_told(bench, told, places, known):
    """The place of gates that tell these bits, by the number that places' bits make, anything where it is None."""
    key = tuple(told)
    if key not in known:
        known[key] = lay_choice(bench, told, places, known)
    return known[key]


def lay_choice(bench, told, places, known):
    """The like, by a choice of the last place where there is one to be made."""
    bits = sorted(set([bit for bit in told if bit is not None]))
    if len(bits) < 2:
        return bench.lay_steady(max(bits, default=0))
    half = len(told) // 2
    low, high = told[:half], told[half:]
    if all([one is None or other is None or one == other for one, other in zip(low, high)]):
        both = [other if one is None else one for one, other in zip(low, high)]
        return lay_told(bench, both, places[:-1], known)
    if 1 not in low and 0 not in high:
        return places[-1]
    chosen = [lay_told(bench, high, places[:-1], known), lay_told(bench, low, places[:-1], known)]
    return bench.lay(CHOICE, [places[-1]] + chosen)


# The paper: helpers tell whether a state is come to, and the bits of the number of its sort.

def paper_of(circuit, new, states, sorts):
    """The paper for a circuit and the one of the fewest states."""
    writer = Writer(circuit, new)
    pairs = held_pairs(writer, circuit, new, states, sorts)
    for one, other in pairs:
        writer.hold(one, other)
    ins = circuit[0]
    free = list(range(ins)) + memory_spots(circuit)
    given = [writer.numbers[pair] for pair in pairs]
    ends = [((0, place), (1, twin)) for place, twin in zip(circuit[3], new[3])]
    for one, other in ends:
        if (one, other) not in writer.numbers:
            writer.claim(one, other, list(free), list(given))
    for one, other in pairs:
        writer.show_held(one, other, list(free), list(given))
    return writer.paper(ends)


def memory_spots(circuit):
    """The spots of the first circuit's memories."""
    return [(0, circuit[0] + k) for k in range(len(circuit[1]))]


def held_pairs(writer, circuit, new, states, sorts):
    """What is held: the state is one come to, and the new memories have the bits of its sort's number."""
    spots = memory_spots(circuit)
    numbers = {number_of(state): sort for state, sort in zip(states, sorts)}
    known = {}
    all_states = range_of_states(circuit)
    come_to = lay_told(writer, [1 if number in numbers else 0 for number in all_states], spots, known)
    found = [(writer.lay_steady(1), come_to)]
    for k in range(len(new[1])):
        told = [(numbers[number] >> k) & 1 if number in numbers else None for number in all_states]
        # In this order, as the looker hands the first spot's value on to a memory that is the second.
        found.append((lay_told(writer, told, spots, known), (1, circuit[0] + k)))
    return [(one, other) for one, other in found if one != other]


def range_of_states(circuit):
    """The numbers of all states, come to or not."""
    return list(range(1 << len(circuit[1])))
