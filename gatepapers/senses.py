"""Senses: what each place of a circuit comes to where its memories are read as told."""

from gatepapers.tables import fixed, flipped, hangs, joined, ordered

NOT = 1
SAME = 2


def senses_of(circuit, reading):
    """By a reading: the senses of all places, ("bit", b) or ("place", p), and what is left of each gate.

    A reading has ("bit", b) or ("memory", its place) for each memory; what is left of a gate is (table, places).
    """
    ins, memories, gates, outs = circuit
    senses = [("place", place) for place in range(ins)] + [memory_sense(told) for told in reading]
    lefts = []
    # Of the gates whose sense is itself: the gate by what is left of it, and the place that a not reads.
    kept = {}
    nots = {}
    for table, places in gates:
        own = len(senses)
        left = left_of(table, [senses[place] for place in places], nots)
        lefts.append(left)
        senses.append(gate_sense(left, own, kept))
        if senses[own] == ("place", own):
            kept[left] = own
            if is_not(left):
                nots[own] = left[1][0]
    return (senses, lefts)


def memory_sense(told):
    """The sense of a memory of which a reading tells this."""
    kind, thing = told
    return ("bit", thing) if kind == "bit" else ("place", thing)


def gate_sense(left, own, kept):
    """The sense of a gate at its own place, by what is left of it and what is left of the gates kept below."""
    table, places = left
    if not places:
        return ("bit", table)
    if table == SAME and len(places) == 1:
        return ("place", places[0])
    return ("place", kept.get(left, own))


def is_not(left):
    """Whether what is left of a gate is a not."""
    return left[0] == NOT and len(left[1]) == 1


def left_of(table, senses, nots):
    """What is left of a gate, by its table and the senses of its places: a tuple of a table and rising places."""
    left = (table, senses)
    lesser = lessened(table, senses, nots)
    while lesser is not None:
        left = lesser
        lesser = lessened(left[0], left[1], nots)
    places = [place for kind, place in left[1]]
    order = sorted(range(len(places)), key=lambda k: places[k])
    return (ordered(left[0], order), tuple([places[k] for k in order]))


def lessened(table, senses, nots):
    """A table and senses after one step, the first that can be done, or None where none can."""
    many = len(senses)
    for k, sense in enumerate(senses):
        kind, thing = sense
        rest = senses[:k] + senses[k + 1:]
        if kind == "bit":
            return (fixed(table, many, k, thing), rest)
        if sense in senses[:k]:
            return (joined(table, many, senses.index(sense), k), rest)
        if not hangs(table, many, k):
            return (fixed(table, many, k, 0), rest)
        if thing in nots:
            return (flipped(table, many, k), senses[:k] + [("place", nots[thing])] + senses[k + 1:])
    return None
