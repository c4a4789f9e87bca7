"""Spots: places of two circuits, and helpers beside both, reckoned in many trials at once."""

from gatepapers.bits import is_below
from gatepapers.circuits import is_tuple
from gatepapers.columns import column_told


def is_spot(thing, sizes):
    """Whether a thing is a spot, by how many places both circuits have and how many helpers there are; of anything."""
    return is_tuple(thing, 2) and is_below(thing[0], 3) and is_below(thing[1], sizes[thing[0]])


class Ground:
    """Two circuits and the helpers beside them, by their spots."""

    def __init__(self, one, other, helpers):
        # Gates and helpers have tuples (table, spots), memories their begins, and the spots of their nexts.
        self.gates = {}
        self.begins = {}
        self.afters = {}
        self.put_circuit(0, one)
        self.put_circuit(1, other)
        for k, helper in enumerate(helpers):
            self.gates[(2, k)] = helper

    def put_circuit(self, which, circuit):
        """Put a circuit's memories and gates at their spots."""
        ins, memories, gates, outs = circuit
        for k, (begin, after) in enumerate(memories):
            self.begins[(which, ins + k)] = begin
            self.afters[(which, ins + k)] = (which, after)
        for k, (table, places) in enumerate(gates):
            self.gates[(which, ins + len(memories) + k)] = (table, [(which, place) for place in places])

    def all_below(self, known, wanted):
        """The spots wanted and all below them, down to those known, which are left out; each behind those below it."""
        found = {}
        left = list(wanted)
        while left:
            spot = left.pop()
            if spot not in found and spot not in known:
                found[spot] = True
                if spot in self.gates:
                    left.extend(self.gates[spot][1])
        # Gates have places of lower number, helpers only places and helpers of lower number: so they rise.
        return sorted(found)

    def reckoned(self, known, wanted, whole):
        """The columns known, and those that follow by tables on the way to the spots wanted, as far as they do."""
        found = dict(known)
        for spot in self.all_below(known, wanted):
            if spot in self.gates:
                table, spots = self.gates[spot]
                columns = [found[one] for one in spots if one in found]
                if len(columns) == len(spots):
                    found[spot] = column_told(table, columns, whole)
        return found
