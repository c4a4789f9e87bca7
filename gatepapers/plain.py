"""Circuits made plain: of nots and boths alone."""

from gatepapers.flat import Bench
from gatepapers.tables import fixed, hangs, joined
from gatepapers.writing import held_memories, twin_paper

NOT = 1
BOTH = 8


def is_plain(circuit):
    """Whether each gate of a circuit has no places, or is a not, or a both of rising places."""
    return all([is_plain_gate(table, places) for table, places in circuit[2]])


def is_plain_gate(table, places):
    """Whether a gate has no places, or is a not, or a both of rising places."""
    if len(places) == 2:
        return table == BOTH and places[0] < places[1]
    return not places or (table == NOT and len(places) == 1)


def plain(circuit):
    """The circuit made plain, and the paper for the circuit and it."""
    ins, memories, gates, outs = circuit
    bench = Bench(ins + len(memories))
    news = list(range(ins + len(memories)))
    for table, places in gates:
        news.append(Plainer(bench).lay_table(table, [news[place] for place in places]))
    new = (ins, [(begin, news[after]) for begin, after in memories], bench.gates, [news[place] for place in outs])
    claimed = [(ins + len(memories) + k, places) for k, (table, places) in enumerate(gates)]
    return (new, twin_paper(circuit, new, news, held_memories(circuit), claimed))


def left_by(table, many, k):
    """On how many places two tables hang, added, that are left of one where place k is 0, and where it is 1."""
    halves = [fixed(table, many, k, bit) for bit in (0, 1)]
    return len([place for place in range(many - 1) for half in halves if hangs(half, many - 1, place)])


class Plainer:
    """Lays plain gates for one gate; what it has laid already serves again."""

    def __init__(self, bench):
        self.bench = bench
        self.known = {}
        # The place that each not which was laid reads.
        self.read_by = {}

    def lay_known(self, table, places):
        """The place of a gate, laid if there was none."""
        gate = (table, tuple(places))
        if gate not in self.known:
            self.known[gate] = self.bench.lay(table, places)
        return self.known[gate]

    def lay_not(self, place):
        """The place that tells the not of a place."""
        if place in self.read_by:
            return self.read_by[place]
        found = self.lay_known(NOT, [place])
        self.read_by[found] = place
        return found

    def lay_both(self, one, other):
        """The place that tells whether both places are 1; they are unlike, as tables hang on each."""
        return self.lay_known(BOTH, sorted([one, other]))

    def lay_either(self, one, other):
        """The place that tells whether one of two places is 1."""
        return self.lay_not(self.lay_both(self.lay_not(one), self.lay_not(other)))

    def lay_unlike(self, one, other):
        """The place that tells whether two places are unlike."""
        ones = self.lay_both(one, other)
        nots = self.lay_both(self.lay_not(one), self.lay_not(other))
        return self.lay_both(self.lay_not(ones), self.lay_not(nots))

    def lay_table(self, table, places):
        """The place that tells what a table tells of places."""
        many = len(places)
        for k, place in enumerate(places):
            if place in places[:k]:
                return self.lay_table(joined(table, many, places.index(place), k), places[:k] + places[k + 1:])
            if not hangs(table, many, k):
                return self.lay_table(fixed(table, many, k, 0), places[:k] + places[k + 1:])
        if many == 0:
            return self.bench.lay_steady(table)
        # By the place without which least is left, so that a choice is split by what it chooses by.
        at = min(list(range(many)), key=lambda k: left_by(table, many, k))
        low, high = [fixed(table, many, at, bit) for bit in (0, 1)]
        return self.lay_split(places[at], places[:at] + places[at + 1:], low, high)

    def lay_split(self, place, places, low, high):
        """The place that tells of places what the table low tells where one place more is 0, else high."""
        whole = (1 << (1 << len(places))) - 1
        if (low, high) == (0, whole):
            return place
        if (low, high) == (whole, 0):
            return self.lay_not(place)
        if low == 0:
            return self.lay_both(place, self.lay_table(high, places))
        if high == 0:
            return self.lay_both(self.lay_not(place), self.lay_table(low, places))
        if low == whole:
            return self.lay_either(self.lay_not(place), self.lay_table(high, places))
        if high == whole:
            return self.lay_either(place, self.lay_table(low, places))
        if high == whole ^ low:
            return self.lay_unlike(place, self.lay_table(low, places))
        ones = self.lay_both(place, self.lay_table(high, places))
        return self.lay_either(ones, self.lay_both(self.lay_not(place), self.lay_table(low, places)))
