"""Programs made flat: circuits that tell the bits of what they tell."""

from gatepapers.bits import bits_of, number_of
from gatepapers.kinds import ins_among, inner_of, rows_of
from gatepapers.tables import MOST_PLACES
from gatepapers.turns import Scene, stateful

BIT_BY_BIT = {"and": 8, "or": 14, "xor": 6}
# Each goes from the lowest bits up, and hands a bit on: a carry, a borrow, whether all below are the same, or less.
# First is the table at the lowest bits, then the one over what is handed on and two bits further up.
CHAINS = {"plus": (8, 232), "minus": (4, 178), "same": (9, 130), "less": (4, 178)}
NOT = 1
BOTH = 8
EITHER = 14
UNLIKE = 6
UNLIKE_OF_THREE = 150
CHOICE = 216
SECOND_ALONE = 4
FIRST_ALONE = 2


def flat(program):
    """The circuit that tells, turn by turn, the bits of what a program tells."""
    parts = dict(program)
    name, rows = program[-1]
    begins = begins_of(parts, name)
    widths = [width for one, width in ins_among(rows)]
    many = sum(widths)
    bench = Bench(many + len(begins))
    ins = shared(list(range(many)), widths)
    outs, afters = lay_part(bench, parts, name, ins, list(range(many, bench.below)))
    return (many, list(zip(begins, afters)), bench.gates, [place for places in outs.values() for place in places])


class Bench:
    """The gates that have been laid, and how many places stand below them."""

    def __init__(self, below):
        self.below = below
        self.gates = []
        self.steady = {}

    def lay(self, table, places):
        """Lay a gate, and tell its place."""
        self.gates.append((table, tuple(places)))
        return self.below + len(self.gates) - 1

    def lay_steady(self, bit):
        """The place of a gate without places that tells a bit; one serves all who ask for it."""
        if bit not in self.steady:
            self.steady[bit] = self.lay(bit, [])
        return self.steady[bit]

    def lay_chain(self, word, ones, others):
        """The places of what a chain hands on, from the lowest bits up."""
        found = []
        lowest, higher = CHAINS[word]
        for one, other in zip(ones, others):
            if found:
                found.append(self.lay(higher, [found[-1], one, other]))
            else:
                found.append(self.lay(lowest, [one, other]))
        return found

    def lay_sum(self, word, ones, others):
        """The places of a sum or a difference, without what passes its width."""
        carries = self.lay_chain(word, ones[:-1], others[:-1])
        found = [self.lay(UNLIKE, [ones[0], others[0]])]
        for carry, one, other in zip(carries, ones[1:], others[1:]):
            found.append(self.lay(UNLIKE_OF_THREE, [carry, one, other]))
        return found

    def lay_match(self, places, bits):
        """The place that tells whether places have these bits."""
        found = self.lay(1 << number_of(bits[:MOST_PLACES]), places[:MOST_PLACES])
        for place, bit in zip(places[MOST_PLACES:], bits[MOST_PLACES:]):
            found = self.lay(BOTH if bit == 1 else FIRST_ALONE, [found, place])
        return found


# Memories: which bits stand for the state of a part.

def width_of_rooms(rooms):
    """How many bits tell the number of a room."""
    return max(len(rooms) - 1, 0).bit_length()


def begins_of(parts, name):
    """The bits with which the memories of a part begin, in the order of its state."""
    begins = []
    for row in stateful(parts[name]):
        begins.extend(begins_of_row(parts, row))
    return begins


def begins_of_row(parts, row):
    """The bits with which the memories of one row begin."""
    if row[0] == "memory":
        return bits_of(row[3], row[2])
    if row[0] == "rooms":
        return bits_of(0, width_of_rooms(row[2]))
    return begins_of(parts, row[2])


def shared(places, sizes):
    """Places dealt out in their order, a list of so many for each size."""
    found = []
    at = 0
    for size in sizes:
        found.append(places[at:at + size])
        at += size
    return found


# Parts: their gates, by the places of their ins and memories.

def lay_part(bench, parts, name, ins, memories):
    """Lay the gates of a part: a dict of its outs' places, and the places of its memories' nexts."""
    rows = parts[name]
    keepers = stateful(rows)
    dealt = shared(memories, [len(begins_of_row(parts, row)) for row in keepers])
    own = {row[1]: places for row, places in zip(keepers, dealt)}
    scene = scene_over(rows, ins, own)
    afters = {}
    for row in rows:
        if row[0] == "wire":
            scene.names[row[1]] = lay_expression(bench, row[2], scene)
        elif row[0] == "use":
            handed = [lay_expression(bench, expression, scene) for expression in row[3]]
            used, later = lay_part(bench, parts, row[2], handed, own[row[1]])
            scene.outs[row[1]] = used
            afters[row[1]] = later
    # Only now all wires and uses are laid, and what comes here may name any of them.
    for row in rows_of(rows, "memory"):
        afters[row[1]] = lay_expression(bench, row[4], scene)
    for row in rows_of(rows, "rooms"):
        goings = [going for going in rows_of(rows, "go") if going[1] == row[1]]
        afters[row[1]] = lay_rooms(bench, row[2], own[row[1]], goings, scene)
    outs = {row[1]: lay_expression(bench, row[2], scene) for row in rows_of(rows, "out")}
    return (outs, [place for row in keepers for place in afters[row[1]]])


def scene_over(rows, ins, own):
    """The scene ahead of wires and uses: places for names, and for each rooms row its rooms and places."""
    scene = Scene()
    for row, places in zip(rows_of(rows, "in"), ins):
        scene.names[row[1]] = places
    for row in rows_of(rows, "memory"):
        scene.names[row[1]] = own[row[1]]
    for row in rows_of(rows, "rooms"):
        scene.rooms[row[1]] = (row[2], own[row[1]])
    return scene


def lay_rooms(bench, rooms, places, goings, scene):
    """The places of the number of the room that comes next."""
    found = places
    # The first go row that leads is to win, so each is laid over those behind it.
    for going in reversed(goings):
        condition = lay_expression(bench, going[4], scene)[0]
        leads = bench.lay(BOTH, [lay_at(bench, going[1], going[2], scene), condition])
        bits = bits_of(rooms.index(going[3]), len(places))
        found = [bench.lay(EITHER if bit == 1 else SECOND_ALONE, [leads, place]) for bit, place in zip(bits, found)]
    return found


def lay_at(bench, name, room, scene):
    """The place that tells whether a rooms row is in a room."""
    rooms, places = scene.rooms[name]
    return bench.lay_match(places, bits_of(rooms.index(room), len(places)))


def lay_expression(bench, expression, scene):
    """The places of an expression's bits, the lowest first."""
    word = expression[0]
    if word == "name":
        return scene.names[expression[1]]
    if word == "number":
        return [bench.lay_steady(bit) for bit in bits_of(expression[2], expression[1])]
    if word == "of":
        return scene.outs[expression[1]][expression[2]]
    if word == "at":
        return [lay_at(bench, expression[1], expression[2], scene)]
    inner = [lay_expression(bench, one, scene) for one in inner_of(expression)]
    if word == "cut":
        return inner[0][expression[2]:expression[2] + expression[3]]
    return lay_over(bench, word, inner)


def lay_over(bench, word, inner):
    """The places of an expression's bits, by those of the expressions within it."""
    if word == "not":
        return [bench.lay(NOT, [place]) for place in inner[0]]
    if word == "join":
        return inner[0] + inner[1]
    if word == "if":
        return [bench.lay(CHOICE, [inner[0][0], one, other]) for one, other in zip(inner[1], inner[2])]
    if word in BIT_BY_BIT:
        return [bench.lay(BIT_BY_BIT[word], [one, other]) for one, other in zip(inner[0], inner[1])]
    if word in ("same", "less"):
        return [bench.lay_chain(word, inner[0], inner[1])[-1]]
    return bench.lay_sum(word, inner[0], inner[1])
