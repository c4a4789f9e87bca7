"""Papers written: helpers, statements held and claimed, and by what each of them is shown."""

NOT = 1


class Writer:
    """A paper in the making for two circuits; all that is held is held ahead of the first claim."""

    def __init__(self, one, other):
        self.ins = one[0]
        self.helpers = []
        self.held = []
        self.claims = []
        # Statements' numbers by their two spots, helpers' spots by what they are.
        self.numbers = {((0, k), (1, k)): k for k in range(one[0])}
        self.known = {}
        self.steady = {spot: True for spot in steady_spots(0, one) + steady_spots(1, other)}

    def lay(self, table, spots):
        """The spot of a helper; those of one table over the same spots are one."""
        helper = (table, tuple(spots))
        if helper not in self.known:
            self.known[helper] = (2, len(self.helpers))
            self.helpers.append(helper)
            if not spots:
                self.steady[self.known[helper]] = True
        return self.known[helper]

    def lay_steady(self, bit):
        """The spot of the helper without spots that tells a bit."""
        return self.lay(bit, [])

    def hold(self, one, other):
        """Hold a statement; what it is shown by may lean on claims, and is told later."""
        self.numbers[(one, other)] = self.ins + len(self.held)
        self.held.append((one, other, [], []))

    def show_held(self, one, other, free, given):
        """Tell by what a held statement is shown at the next turn."""
        self.held[self.numbers[(one, other)] - self.ins] = (one, other, free, given)

    def show_held_by(self, one, other, pairs):
        """Tell that a held statement is shown at the next turn by statements, told as pairs of spots."""
        free, given = self.leaned(pairs)
        self.show_held(one, other, free, given)

    def claim(self, one, other, free, given):
        """Claim a statement, shown by free and given."""
        self.numbers[(one, other)] = self.ins + len(self.held) + len(self.claims)
        self.claims.append((one, other, free, given))

    def claim_by(self, one, other, pairs):
        """Claim a statement that is shown by others, told as pairs of spots."""
        free, given = self.leaned(pairs)
        # A helper that the others reckon must not have a bit of its own, by which it could be unlike.
        if one in free and self.is_reckoned(one, free):
            free.remove(one)
        self.claim(one, other, free, given)

    def leaned(self, pairs):
        """The free and the given by which two spots of each pair have one value, whatever it is."""
        free = []
        given = []
        for one, other in pairs:
            for spot in self.roots(one) + self.roots(other):
                if spot not in free:
                    free.append(spot)
            if one != other and self.numbers[(one, other)] not in given:
                given.append(self.numbers[(one, other)])
        return (free, given)

    def roots(self, spot):
        """The spots that need bits for a spot to have a value: none, or the one that it is or is the not of."""
        if spot in self.steady:
            return []
        if spot[0] == 2:
            table, spots = self.helpers[spot[1]]
            if table == NOT and len(spots) == 1:
                return [spots[0]]
        return [spot]

    def is_reckoned(self, spot, free):
        """Whether a spot is a helper that bits of other spots in free reckon."""
        if spot[0] != 2:
            return False
        return all([root in free for below in self.helpers[spot[1]][1] for root in self.roots(below)])

    def paper(self, pairs):
        """The paper, whose ends are the statements told as pairs of spots."""
        return (self.helpers, self.held, self.claims, [self.numbers[pair] for pair in pairs])


def steady_spots(which, circuit):
    """The spots of a circuit's gates without places."""
    ins, memories, gates, outs = circuit
    return [(which, ins + len(memories) + k) for k, (table, places) in enumerate(gates) if not places]


def twins(news, places):
    """The pairs of spots of places and of those that stand for them in the new circuit."""
    return [((0, place), (1, news[place])) for place in places]


def twin_paper(one, other, news, held, claimed):
    """The paper for a circuit and one in which a new place stands for each place that is held, claimed, or an in.

    Held and claimed are lists of tuples (place, places): the place's new one is as it is, at the next turn or now,
    where those of these places are.
    """
    writer = Writer(one, other)
    for place, places in held:
        writer.hold((0, place), (1, news[place]))
    for place, places in claimed:
        writer.claim_by((0, place), (1, news[place]), twins(news, places))
    for place, places in held:
        writer.show_held_by((0, place), (1, news[place]), twins(news, places))
    return writer.paper(twins(news, one[3]))


def held_memories(circuit):
    """All memories of a circuit as held places, each by its next."""
    ins, memories, gates, outs = circuit
    return [(ins + k, [after]) for k, (begin, after) in enumerate(memories)]
