"""How often each gate is moved over, at the least, for a depth; or a way that shows that no moves lead to it."""

from gatepapers.ways import led_back


class Raising:
    """Counts of moves that a depth asks for, raised as long as it asks for more."""

    def __init__(self, circuit, most):
        ins, memories, gates, outs = circuit
        ahead = ins + len(memories)
        self.most = most
        self.counts = {ahead + k: 0 for k, (table, places) in enumerate(gates) if places}
        # Tuples (source, memories, gate, k), by where the gate's place number k leads back; of ins, and of gates.
        self.from_ins = []
        self.from_gates = []
        for gate in self.counts:
            for k, place in enumerate(gates[gate - ahead][1]):
                step = led_back(circuit, place)
                if step is not None:
                    kept = self.from_ins if step[0] < ins else self.from_gates
                    kept.append((step[0], step[1], gate, k))
        # For each gate and each count that it was raised to: the path that asked for it, and the last gate's count.
        self.reasons = {}

    def long_paths(self):
        """For each gate from which a path without memories leads on to as many others as are too many, that path."""
        paths = {gate: [] for gate in self.counts}
        for k in range(self.most):
            longer = {}
            for source, memories, gate, place in self.from_gates:
                left = memories + self.counts[source] - self.counts[gate]
                if left == 0 and gate in paths and source not in longer:
                    longer[source] = [(gate, place)] + paths[gate]
            paths = longer
        return paths

    def raise_by(self, paths):
        """Raise the count of each gate that a path asks for to have one more memory behind it."""
        before = dict(self.counts)
        for gate, path in paths.items():
            self.counts[gate] += 1
            self.reasons[(gate, self.counts[gate])] = (path, before[path[-1][0]])

    def overdrawn(self):
        """The thing of a way at which more moves are asked for than there are memories behind an in, or None."""
        for source, memories, gate, k in self.from_ins:
            if self.counts[gate] > memories:
                return (gate, k)
        return None

    def endless(self):
        """A gate that is asked to be moved over as often as there are gates, or None: it asks for itself, in a ring."""
        for gate, count in self.counts.items():
            if count >= len(self.counts):
                return gate
        return None

    def reasons_from(self, thing):
        """The way from a thing along the paths that asked for its gate's count, and the marks where they meet."""
        way = [thing]
        marks = [0]
        gate = thing[0]
        count = self.counts[gate]
        while count > 0:
            path, count = self.reasons[(gate, count)]
            way.extend(path)
            gate = way[-1][0]
            marks.append(len(way) - 1)
        return (way, marks)


def raised(circuit, most):
    """For moves to a depth of at most so many, from 1 on: (counts, way, marks).

    Counts are the fewest moves over each gate, as a dict; None where no moves lead there, as way and marks then show.
    """
    raising = Raising(circuit, most)
    paths = raising.long_paths()
    while paths:
        raising.raise_by(paths)
        thing = raising.overdrawn()
        if thing is not None:
            way, marks = raising.reasons_from(thing)
            return (None, way, marks)
        gate = raising.endless()
        if gate is not None:
            way, marks = raising.reasons_from((gate, None))
            return (None,) + ring_of(way, marks)
        paths = raising.long_paths()
    return (raising.counts, [], [])


def ring_of(way, marks):
    """The ring that a way goes between two marks at the same gate, the first that it comes round to, and its marks."""
    seen = {}
    for at, mark in enumerate(marks):
        gate = way[mark][0]
        if gate in seen:
            first = marks[seen[gate]] + 1
            return (way[first:mark + 1], [later - first for later in marks[seen[gate] + 1:at + 1]])
        seen[gate] = at
    return ([], [])
