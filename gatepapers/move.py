"""Memories moved forward over gates, to the least depth that moves lead to."""

from gatepapers.bits import is_whole
from gatepapers.circuits import depth, places_in
from gatepapers.errors import TooGreat
from gatepapers.raising import raised
from gatepapers.tables import told
from gatepapers.ways import are_marks, block_sizes, gate_at, is_open, steps_of
from gatepapers.writing import held_memories, twin_paper

MOST_GATES = 40


def over(circuit, gate):
    """The circuit that a forward move over a gate leads to, and the paper for the circuit and it."""
    ins, memories, gates, outs = circuit
    fresh = ins + len(memories)
    table, places = gate_at(circuit, gate)
    # The new memory stands behind the old ones, the new gate behind the others: what it needs is below it.
    news = list(range(fresh)) + [place + 1 for place in range(fresh, gate)] + [fresh]
    news.extend(list(range(gate + 1, places_in(circuit))))
    sources = [source_of(circuit, place) for place in places]
    new_memories = [(begin, news[after]) for begin, after in memories]
    new_memories.append((told(table, [begin for begin, after in sources]), places_in(circuit)))
    new_gates = [(other, tuple([news[place] for place in below])) for other, below in gates]
    del new_gates[gate - fresh]
    new_gates.append((table, tuple([news[after] for begin, after in sources])))
    new = (ins, new_memories, new_gates, [news[place] for place in outs])
    held = held_memories(circuit) + [(gate, [after for begin, after in sources])]
    claimed = [(fresh + k, below) for k, (other, below) in enumerate(gates) if fresh + k != gate]
    return (new, twin_paper(circuit, new, news, held, claimed))


def source_of(circuit, place):
    """The begin and the next of a memory; of a gate without places its bit and its own place, as it stays."""
    gate = gate_at(circuit, place)
    return circuit[1][place - circuit[0]] if gate is None else (gate[0], place)


def moved(circuit):
    """The links of the moves to the least depth, and a way and marks that show that there is no lesser one."""
    if len(circuit[2]) > MOST_GATES:
        raise TooGreat(f"the circuit has more than {MOST_GATES} gates")
    counts = {}
    least = depth(circuit)
    while least > 1:
        fewer, way, marks = raised(circuit, least - 1)
        if fewer is None:
            return (links_of(circuit, counts), way, marks)
        counts = fewer
        least -= 1
    return (links_of(circuit, counts), [], [])


def links_of(circuit, counts):
    """The links of moves over gates, each as often as it is counted."""
    links = []
    left = dict(counts)
    # The gates of the circuit moved so far, by their places in the first one.
    order = list(range(circuit[0] + len(circuit[1]), places_in(circuit)))
    while any([many > 0 for many in left.values()]):
        ahead = circuit[0] + len(circuit[1])
        at = [k for k, gate in enumerate(order) if left.get(gate, 0) > 0 and can_be_moved(circuit, ahead + k)][0]
        circuit, paper = over(circuit, ahead + at)
        links.append((circuit, paper))
        gate = order.pop(at)
        order.append(gate)
        left[gate] -= 1
    return links


def can_be_moved(circuit, gate):
    """Whether a gate with places has memories and gates without places alone among them."""
    return all([is_movable(circuit, place) for place in gate_at(circuit, gate)[1]])


def is_movable(circuit, place):
    """Whether a place is a memory's or that of a gate without places."""
    gate = gate_at(circuit, place)
    return place >= circuit[0] if gate is None else not gate[1]


def shows(circuit, way, marks, d):
    """Whether a way and its marks show that no moves lead to a depth of at most d; of anything."""
    steps = steps_of(circuit, way)
    if steps is None or not is_whole(d):
        return False
    ends = is_open(circuit, steps)
    if not are_marks(marks, len(way), ends):
        return False
    sizes = block_sizes(marks, len(way), ends)
    return all([size > d for size in sizes]) and sum([memories for place, memories in steps]) < len(sizes)
