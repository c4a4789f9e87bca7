"""Ways through gates: steps back through memories, and what marks on a way bound."""

from gatepapers.bits import is_below
from gatepapers.circuits import is_tuple


def gate_at(circuit, place):
    """The gate at a place, or None where an in or a memory is."""
    ahead = circuit[0] + len(circuit[1])
    return circuit[2][place - ahead] if place >= ahead else None


def led_back(circuit, place):
    """A tuple of the in, or gate with places, to which memories lead back from a place, and of how many they are.

    None where they lead to a gate without places, or round through memories alone.
    """
    ins, memories, gates, outs = circuit
    many = 0
    while ins <= place < ins + len(memories):
        if many == len(memories):
            return None
        place = memories[place - ins][1]
        many += 1
    if place >= ins and not gate_at(circuit, place)[1]:
        return None
    return (place, many)


def step_back(circuit, thing):
    """Where the step leads back that begins at a thing of a way, as led_back tells it; None of what is no such thing.

    Of anything.
    """
    many = circuit[0] + len(circuit[1]) + len(circuit[2])
    if not is_tuple(thing, 2) or not is_below(thing[0], many):
        return None
    gate = gate_at(circuit, thing[0])
    if gate is None or not is_below(thing[1], len(gate[1])):
        return None
    return led_back(circuit, gate[1][thing[1]])


def steps_of(circuit, way):
    """Where the steps of a way lead back, or None of what is no way; of anything."""
    if not isinstance(way, list) or not way:
        return None
    steps = [step_back(circuit, thing) for thing in way]
    if any([step is None for step in steps]):
        return None
    for thing, step in zip(way[:-1], steps[1:]):
        if step[0] != thing[0]:
            return None
    if not is_open(circuit, steps) and steps[0][0] != way[-1][0]:
        return None
    return steps


def is_open(circuit, steps):
    """Whether the first step of a way leads to an in."""
    return steps[0][0] < circuit[0]


def are_marks(marks, many, ends):
    """Whether a thing is marks of a way of so many things, its ends among them where they are to be; of anything."""
    if not isinstance(marks, list) or len(marks) < 2 or not all([is_below(mark, many) for mark in marks]):
        return False
    if not all([mark < later for mark, later in zip(marks[:-1], marks[1:])]):
        return False
    return not ends or (marks[0] == 0 and marks[-1] == many - 1)


def block_sizes(marks, many, ends):
    """How many gates each block has that the marks of a way bound."""
    sizes = [later - mark + 1 for mark, later in zip(marks[:-1], marks[1:])]
    if not ends:
        sizes.append(many - marks[-1] + marks[0] + 1)
    return sizes
