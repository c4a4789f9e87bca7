"""Circuits: gates over ins and memories, run turn by turn."""

from gatepapers.bits import is_below, is_whole
from gatepapers.tables import is_table, told


def is_circuit(thing):
    """Whether a thing is a circuit; of anything."""
    if not is_tuple(thing, 4):
        return False
    ins, memories, gates, outs = thing
    if not is_whole(ins) or ins < 0:
        return False
    if not isinstance(memories, list) or not isinstance(gates, list) or not isinstance(outs, list):
        return False
    ahead = ins + len(memories)
    many = ahead + len(gates)
    return (
        all([is_memory(memory, many) for memory in memories])
        and all([is_gate(gate, ahead + k) for k, gate in enumerate(gates)])
        and all([is_below(place, many) for place in outs])
    )


def is_tuple(thing, many):
    """Whether a thing is a tuple of so many things; of anything."""
    return isinstance(thing, tuple) and len(thing) == many


def is_memory(thing, many):
    """Whether a thing is a memory of a circuit with so many places; of anything."""
    return is_tuple(thing, 2) and is_below(thing[0], 2) and is_below(thing[1], many)


def is_gate(thing, own):
    """Whether a thing is a gate that can stand at a place of its own; of anything."""
    if not is_tuple(thing, 2) or not isinstance(thing[1], tuple):
        return False
    return is_table(thing[0], len(thing[1])) and all([is_below(place, own) for place in thing[1]])


def places_in(circuit):
    """How many places a circuit has."""
    return circuit[0] + len(circuit[1]) + len(circuit[2])


def first_of(circuit):
    """The first state of a circuit."""
    return [begin for begin, after in circuit[1]]


def values(circuit, state, ins):
    """The value of each place, by a state and a bit for each in."""
    found = list(ins) + list(state)
    for table, places in circuit[2]:
        found.append(told(table, [found[place] for place in places]))
    return found


def step(circuit, state, ins):
    """A tuple of the outs' values of one turn and the next state."""
    found = values(circuit, state, ins)
    return ([found[place] for place in circuit[3]], [found[after] for begin, after in circuit[1]])


def run_bits(circuit, rows):
    """The outs of a circuit from its first state on, for each row of ins."""
    state = first_of(circuit)
    found = []
    for ins in rows:
        outs, state = step(circuit, state, ins)
        found.append(outs)
    return found


def depth(circuit):
    """The depth of a circuit, the greatest of its gates'."""
    depths = [0] * (circuit[0] + len(circuit[1]))
    for table, places in circuit[2]:
        depths.append(1 + max([depths[place] for place in places]) if places else 0)
    return max(depths, default=0)
