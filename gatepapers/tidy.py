"""Circuits tidied: what is steady or alike by the widest reading is told once."""

from gatepapers.senses import senses_of
from gatepapers.writing import Writer


def reading(circuit):
    """The widest kept reading of a circuit, ("bit", b) or ("memory", its place) for each memory."""
    # All that begin alike are taken for one steady bit, and parted as long as their nexts don't bear it out.
    # The wider a reading is, the more senses are one by it: so nothing is parted that is one by a kept reading.
    found = [("bit", begin) for begin, after in circuit[1]]
    narrower = narrowed(circuit, found)
    while narrower != found:
        found = narrower
        narrower = narrowed(circuit, found)
    return found


def narrowed(circuit, wider):
    """A reading with those memories parted whose nexts have unlike senses by a wider one."""
    senses, lefts = senses_of(circuit, wider)
    firsts = {}
    found = []
    for k, (begin, after) in enumerate(circuit[1]):
        if wider[k] == senses[after]:
            found.append(wider[k])
        else:
            found.append(("memory", firsts.setdefault((wider[k], senses[after]), circuit[0] + k)))
    return found


def tidied(circuit):
    """The tidied circuit, and the paper for the circuit and it."""
    senses, lefts = senses_of(circuit, reading(circuit))
    kept = kept_senses(circuit, needed_senses(circuit, senses, lefts))
    news = {sense: place for place, sense in enumerate(kept)}
    new = circuit_of(circuit, senses, lefts, kept, news)
    return (new, paper_of(circuit, new, senses, lefts, kept))


def is_memory_place(circuit, place):
    """Whether a place is a memory's."""
    return circuit[0] <= place < circuit[0] + len(circuit[1])


def needed_senses(circuit, senses, lefts):
    """A dict of the senses that are needed: those of outs, and what these need in turn."""
    ins, memories, gates, outs = circuit
    ahead = ins + len(memories)
    needed = {}
    left = [senses[place] for place in outs]
    while left:
        sense = left.pop()
        if sense not in needed:
            needed[sense] = True
            kind, thing = sense
            if kind == "place" and is_memory_place(circuit, thing):
                left.append(senses[memories[thing - ins][1]])
            elif kind == "place" and thing >= ahead:
                left.extend([("place", place) for place in lefts[thing - ahead][1]])
    return needed


def kept_senses(circuit, needed):
    """The senses that the places of the tidied circuit have, in their order."""
    ins, memories, gates, outs = circuit
    ahead = ins + len(memories)
    places = sorted([thing for kind, thing in needed if kind == "place" and thing >= ins])
    kept = [("place", place) for place in list(range(ins)) + [place for place in places if place < ahead]]
    kept.extend([("bit", bit) for bit in (0, 1) if ("bit", bit) in needed])
    kept.extend([("place", place) for place in places if place >= ahead])
    return kept


def circuit_of(circuit, senses, lefts, kept, news):
    """The tidied circuit, by the senses kept and the new place of each of them."""
    ins, memories, gates, outs = circuit
    kept_memories = []
    kept_gates = []
    for kind, thing in kept[ins:]:
        if kind == "bit":
            kept_gates.append((thing, ()))
        elif is_memory_place(circuit, thing):
            begin, after = memories[thing - ins]
            kept_memories.append((begin, news[senses[after]]))
        else:
            table, places = lefts[thing - ins - len(memories)]
            kept_gates.append((table, tuple([news[("place", place)] for place in places])))
    return (ins, kept_memories, kept_gates, [news[senses[place]] for place in outs])


# The paper: each spot of both circuits is as its normal spot, an in or a memory of the first one, or a helper.

def paper_of(circuit, new, senses, lefts, kept):
    """The paper for a circuit and the tidied one."""
    writer = Writer(circuit, new)
    normals = normal_spots(writer, circuit, senses, lefts)
    new_normals = [normal_of(writer, normals, sense) for sense in kept]
    pairs = held_pairs(circuit, new, normals, new_normals)
    for one, other in pairs:
        writer.hold(one, other)
    claim_gates(writer, 0, circuit, normals)
    claim_gates(writer, 1, new, new_normals)
    ends = [((0, place), (1, twin)) for place, twin in zip(circuit[3], new[3])]
    for one, other in ends:
        if (one, other) not in writer.numbers:
            writer.claim_by(one, other, [(normals[one[1]], one), (normals[one[1]], other)])
    for one, other in pairs:
        afters = next_pairs((circuit, new), (normals, new_normals), (one, other))
        writer.show_held_by(one, other, afters)
    return writer.paper(ends)


def normal_of(writer, normals, sense):
    """The normal spot of a sense."""
    kind, thing = sense
    return writer.lay_steady(thing) if kind == "bit" else normals[thing]


def normal_spots(writer, circuit, senses, lefts):
    """The normal spot of each place of the first circuit."""
    ahead = circuit[0] + len(circuit[1])
    normals = []
    for place, sense in enumerate(senses):
        if sense != ("place", place):
            normals.append(normal_of(writer, normals, sense))
        elif place < ahead:
            normals.append((0, place))
        else:
            table, places = lefts[place - ahead]
            normals.append(writer.lay(table, [normals[below] for below in places]))
    return normals


def held_pairs(circuit, new, normals, new_normals):
    """What is held: each memory is as its normal spot, but where it is that spot itself."""
    ins = circuit[0]
    found = [(normals[ins + k], (0, ins + k)) for k in range(len(circuit[1])) if normals[ins + k] != (0, ins + k)]
    found.extend([(new_normals[ins + k], (1, ins + k)) for k in range(len(new[1]))])
    return found


def claim_gates(writer, which, circuit, normals):
    """Claim each gate of a circuit to be as its normal spot, by its places being so."""
    ins, memories, gates, outs = circuit
    for k, (table, places) in enumerate(gates):
        own = ins + len(memories) + k
        writer.claim_by(normals[own], (which, own), [(normals[place], (which, place)) for place in places])


def next_pairs(circuits, normals, pair):
    """The statements that show a held pair at the next turn: of the next of each memory in it."""
    found = []
    for which, place in pair:
        if which < 2:
            after = circuits[which][1][place - circuits[which][0]][1]
            found.append((normals[which][after], (which, after)))
    return found
