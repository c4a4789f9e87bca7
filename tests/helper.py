"""What several tests need: odd things, texts of programs, second ways to reckon, programs and circuits made up."""

import unittest
from copy import deepcopy
from itertools import product
from random import Random

from gatepapers.circuits import is_circuit, run_bits
from gatepapers.errors import GateError
from gatepapers.judge import parted
from gatepapers.papers import looked

KEPT = ("part end in out wire memory rooms go use number of at not and or xor plus minus same less if join cut").split()
EXPRESSION_WORDS = KEPT[9:]
TWO = ("and", "or", "xor", "plus", "minus", "same", "less", "join")


def nested(deep, wrap):
    """A thing nested so deep."""
    thing = wrap()
    for k in range(deep - 1):
        thing = wrap(thing)
    return thing


def list_of(*things):
    return list(things)


def tuple_of(*things):
    return tuple(things)


def dict_of(*things):
    return {k: thing for k, thing in enumerate(things)}


ODD_THINGS = [
    None, True, False, [], [0], [1, 2], (), (0,), (1, 2), {}, {0: 1}, {"part": 1}, b"", b"0", b"part",
    1.0, 0.0, -1.5, set(), {0}, frozenset(), object(), int, len,
    nested(100, list_of), nested(100, tuple_of), nested(100, dict_of),
]


def lists_of_bits(many):
    """Each list of so many bits, rising."""
    return [list(bits) for bits in product((0, 1), repeat=many)]


def lists_within(thing):
    """A thing, if it is a list, and all lists within it."""
    found = [thing] if isinstance(thing, list) else []
    for inner in thing if isinstance(thing, (list, tuple)) else ():
        found.extend(lists_within(inner))
    return found


class Checks(unittest.TestCase):
    """A test that can ask for one refusal and for no other."""

    def refused(self, error, deed, *things):
        try:
            answer = deed(*things)
        except GateError as caught:
            self.assertIs(type(caught), error, (str(caught), things))
        else:
            self.fail(f"not refused with {error.__name__}, but told {answer!r}: {things!r}")

    def whole(self, thing):
        self.assertIs(type(thing), int)

    def same_by_paper(self, circuit, other, paper, model=True):
        """That both are circuits that tell the same, and that the looker takes the paper for them."""
        self.assertIs(is_circuit(other), True, other)
        rows = made_up_rows(Random(len(circuit[2])), circuit[0], 24)
        self.assertEqual(run_bits(circuit, rows), run_bits(other, rows), (circuit, other))
        self.assertIs(looked(circuit, other, paper), True, (circuit, other, paper))
        if model:
            self.assertTrue(PaperModel(circuit, other, paper).taken(), (circuit, other, paper))

    def not_taken_spoilt(self, circuit, new, paper):
        """That the paper isn't taken where one figure of a gate's table is spoilt and that parts them; how often it does."""
        ins, memories, gates, outs = new
        parting = 0
        for k, (table, places) in enumerate(gates):
            for figure in range(2 ** len(places)):
                other = (ins, memories, gates[:k] + [(table ^ 1 << figure, places)] + gates[k + 1:], outs)
                if parted(circuit, other) is not None:
                    self.assertIs(looked(circuit, other, paper), False)
                    parting += 1
        return parting

    def own_lists(self, deed, *things):
        """That a deed leaves what is handed in, and each time tells the same in lists that are its asker's own."""
        things = [deepcopy(thing) for thing in things]
        kept = deepcopy(things)
        told = [deed(*things) for k in range(3)]
        self.assertEqual(things, kept)
        wanted = deepcopy(told[0])
        lists = lists_within(things) + lists_within(told)
        self.assertEqual(len({id(one) for one in lists}), len(lists))
        for one in lists_within(told[0]):
            one.append("more")
        self.assertEqual(told[1:], [wanted, wanted])
        self.assertEqual(things, kept)
        self.assertEqual(deed(*things), wanted)
        for one in lists_within(things):
            one.clear()
        self.assertEqual(told[1:], [wanted, wanted])


# Texts of programs.

def text_of(program):
    """The text of a program."""
    return " ".join([f"part {name} {' '.join([row_text(row) for row in rows])} end" for name, rows in program])


def row_text(row):
    words = [row[0]]
    for thing in row[1:]:
        if row[0] == "rooms" and isinstance(thing, tuple):
            words.extend(thing)
        elif row[0] == "use" and isinstance(thing, tuple):
            words.extend([expression_text(one) for one in thing])
        else:
            words.append(expression_text(thing) if isinstance(thing, tuple) else str(thing))
    return " ".join(words)


def expression_text(expression):
    if expression[0] == "name":
        return expression[1]
    things = [expression_text(one) if isinstance(one, tuple) else str(one) for one in expression[1:]]
    return f"({' '.join([expression[0]] + things)})"


def all_expressions(thing):
    """The expressions anywhere in a program, its parts, rows or expressions."""
    found = []
    if isinstance(thing, tuple) and thing and thing[0] in ["name"] + EXPRESSION_WORDS:
        found.append(thing)
    if isinstance(thing, (list, tuple)):
        for inner in thing:
            found.extend(all_expressions(inner))
    return found


# A second way to reckon: by lists of bits, each name looked up as it is asked for.

def to_bits(number, width):
    return [int(figure) for figure in reversed(format(number, f"0{width}b"))]


def to_number(bits):
    return int("".join([str(bit) for bit in reversed(bits)]), 2)


class Model:
    """One turn of a part, reckoned bit by bit."""

    def __init__(self, program, name, state, ins):
        self.program = program
        self.rows = [rows for other, rows in program if other == name][0]
        keepers = [row for row in self.rows if row[0] in ("memory", "rooms", "use")]
        self.state = {row[1]: thing for row, thing in zip(keepers, state)}
        self.ins = {row[1]: value for row, value in zip([row for row in self.rows if row[0] == "in"], ins)}
        self.used = {}
        self.keepers = keepers

    def outs(self):
        return {row[1]: self.bits(row[2]) for row in self.rows if row[0] == "out"}

    def after(self):
        return [self.later(row) for row in self.keepers]

    def later(self, row):
        if row[0] == "memory":
            return to_number(self.bits(row[4]))
        if row[0] == "use":
            return self.use(row[1]).after()
        here = self.state[row[1]]
        ways = [going[3] for going in self.rows
                if going[0] == "go" and going[1] == row[1] and going[2] == row[2][here] and self.bits(going[4]) == [1]]
        return row[2].index(ways[0]) if ways else here

    def use(self, name):
        if name not in self.used:
            row = [row for row in self.rows if row[0] == "use" and row[1] == name][0]
            handed = [to_number(self.bits(one)) for one in row[3]]
            self.used[name] = Model(self.program, row[2], self.state[name], handed)
        return self.used[name]

    def name(self, name):
        for row in self.rows:
            if row[:2] == ("in", name):
                return to_bits(self.ins[name], row[2])
            if row[:2] == ("memory", name):
                return to_bits(self.state[name], row[2])
            if row[:2] == ("wire", name):
                return self.bits(row[2])
        raise KeyError(name)

    def bits(self, expression):
        word = expression[0]
        if word == "name":
            return self.name(expression[1])
        if word == "number":
            return to_bits(expression[2], expression[1])
        if word == "of":
            return self.use(expression[1]).outs()[expression[2]]
        if word == "at":
            names = [row[2] for row in self.rows if row[:2] == ("rooms", expression[1])][0]
            return [int(names[self.state[expression[1]]] == expression[2])]
        if word == "cut":
            return self.bits(expression[1])[expression[2]:expression[2] + expression[3]]
        return over_bits(word, [self.bits(one) for one in expression[1:]])


def over_bits(word, lists):
    """What an expression tells of the bits of those within it."""
    if word == "not":
        return [1 - bit for bit in lists[0]]
    if word == "if":
        return lists[1] if lists[0] == [1] else lists[2]
    one, other = lists
    if word == "join":
        return one + other
    if word == "same":
        return [int(one == other)]
    if word == "less":
        return [int(one[::-1] < other[::-1])]
    if word == "and":
        return [a * b for a, b in zip(one, other)]
    if word == "or":
        return [max(a, b) for a, b in zip(one, other)]
    if word == "xor":
        return [int(a != b) for a, b in zip(one, other)]
    carry = int(word == "minus")
    found = []
    for a, b in zip(one, [1 - b for b in other] if word == "minus" else other):
        found.append((a + b + carry) % 2)
        carry = (a + b + carry) // 2
    return found


# Programs made up, the same for the same number.

class Maker:
    """Makes up programs that are refused by nothing but, perhaps, their weight."""

    def __init__(self, seed):
        self.chance = Random(seed)
        self.shapes = {}

    def program(self):
        return [(name, self.part(name)) for name in ["pa", "pb", "pc", "pd"][:self.chance.randint(1, 4)]]

    def part(self, name):
        chance = self.chance
        self.names, self.outs, self.rooms = {}, {}, {}
        begun = [("in", f"i{'abc'[k]}", chance.randint(1, 4)) for k in range(chance.randint(0, 3))]
        ins = [(row[1], row[2]) for row in begun]
        memories = [(f"m{'abc'[k]}", chance.randint(1, 4)) for k in range(chance.randint(0, 2))]
        for k in range(chance.randint(0, 2)):
            rooms = ("ra", "rb", "rc", "rd")[:chance.randint(1, 4)]
            begun.append(("rooms", f"q{'ab'[k]}", rooms))
            self.rooms[f"q{'ab'[k]}"] = rooms
        self.names = dict(ins + memories)
        led = [self.led(k) for k in range(chance.randint(0, 4))]
        behind = [("memory", one, width, chance.randrange(1 << width), self.expression(width, 2))
                  for one, width in memories]
        behind += [("go", q, chance.choice(rooms), chance.choice(rooms), self.expression(1, 2))
                   for q, rooms in self.rooms.items() for k in range(chance.randint(0, 4))]
        outs = [(f"o{'abc'[k]}", chance.randint(1, 4)) for k in range(chance.randint(0 if behind else 1, 3))]
        behind += [("out", one, width, self.expression(width, 3)) for one, width in outs]
        behind = [row if row[0] != "out" else (row[0], row[1], row[3]) for row in behind]
        self.shapes[name] = (ins, outs)
        return self.mixed(begun + behind, led, ins, outs)

    def led(self, k):
        """A wire or a use, which serves from now on."""
        name = "wabcd"[k] + "w"
        if self.shapes and self.chance.random() < 0.5:
            used = self.chance.choice(sorted(self.shapes))
            row = ("use", name, used, tuple([self.expression(width, 1) for one, width in self.shapes[used][0]]))
            self.outs.update({(name, out): width for out, width in self.shapes[used][1]})
            return row
        width = self.chance.randint(1, 4)
        row = ("wire", name, self.expression(width, 2))
        self.names[name] = width
        return row

    def mixed(self, free, led, ins, outs):
        """The rows in any order in which those that must stand ahead do, and ins and outs are in theirs."""
        order = [("free", row) for row in free] + [("led", None)] * len(led)
        self.chance.shuffle(order)
        led, ins, outs = list(led), [("in", *one) for one in ins], [row for row in free if row[0] == "out"]
        rows = []
        for kind, row in order:
            source = led if kind == "led" else {"in": ins, "out": outs}.get(row[0])
            rows.append(source.pop(0) if source is not None else row)
        return rows

    def expression(self, width, deep):
        words = ["name", "of", "at"] + (["number"] if self.chance.random() < 0.2 else [])
        if deep:
            words += ["not", "and", "or", "xor", "plus", "minus", "if", "same", "less", "join", "cut"]
        self.chance.shuffle(words)
        words.append("number")
        for word in words:
            made = self.made(word, width, deep - 1)
            if made is not None:
                return made
        return None

    def made(self, word, width, deep):
        """An expression of a word and a width, or None where there is none."""
        chance = self.chance
        if word in ("name", "of", "at"):
            return self.leaf(word, width)
        if word == "number":
            return ("number", width, chance.randrange(1 << width))
        if word == "join":
            low = chance.randint(1, width - 1) if width > 1 else 0
            return ("join", self.expression(low, deep), self.expression(width - low, deep)) if low else None
        if word == "cut":
            wide = chance.randint(width, 6)
            return ("cut", self.expression(wide, deep), chance.randint(0, wide - width), width)
        if word in ("same", "less") and width == 1:
            wide = chance.randint(1, 4)
            return (word, self.expression(wide, deep), self.expression(wide, deep))
        if word == "if":
            return ("if", self.expression(1, deep), self.expression(width, deep), self.expression(width, deep))
        if word in ("same", "less"):
            return None
        return (word,) + tuple([self.expression(width, deep) for k in range(1 if word == "not" else 2)])

    def leaf(self, word, width):
        if word == "name":
            fit = [("name", name) for name, wide in self.names.items() if wide == width]
        elif word == "of":
            fit = [("of",) + pair for pair, wide in self.outs.items() if wide == width]
        else:
            fit = [("at", q, room) for q, rooms in self.rooms.items() for room in rows_if(rooms, width)]
        return self.chance.choice(fit) if fit else None

    def ins(self, program, name):
        """Numbers for the ins of a part."""
        return [self.chance.randrange(1 << width) for one, width in self.shapes[name][0]]

    def state(self, program, name):
        """A state of a part, come to or not."""
        found = []
        for row in dict(program)[name]:
            if row[0] == "memory":
                found.append(self.chance.randrange(1 << row[2]))
            elif row[0] == "rooms":
                found.append(self.chance.randrange(len(row[2])))
            elif row[0] == "use":
                found.append(self.state(program, row[2]))
        return found


def rows_if(rooms, width):
    return rooms if width == 1 else ()


# Circuits: a second way to reckon them, and circuits made up.

def values_by_point(circuit, state, ins):
    """The value of each place, each asked for by itself and of those below it as they are needed."""
    many, memories, gates, outs = circuit
    known = {}

    def value(place):
        if place < many:
            return ins[place]
        if place < many + len(memories):
            return state[place - many]
        if place not in known:
            table, places = gates[place - many - len(memories)]
            at = sum([value(below) * worth for below, worth in zip(places, (1, 2, 4))])
            known[place] = int(format(table, "b")[::-1].ljust(8, "0")[at])
        return known[place]

    return [value(place) for place in range(many + len(memories) + len(gates))]


def turn_by_point(circuit, state, ins):
    """The outs and the next state of one turn."""
    values = values_by_point(circuit, state, ins)
    return [values[place] for place in circuit[3]], [values[after] for begin, after in circuit[1]]


def run_by_point(circuit, rows):
    """The outs of each turn, from the first state on."""
    state = [begin for begin, after in circuit[1]]
    told = []
    for ins in rows:
        outs, state = turn_by_point(circuit, state, ins)
        told.append(outs)
    return told


def made_up_gate(chance, own):
    """A gate of any table over places below its own."""
    many = chance.choice((0, 1, 2, 2, 3, 3)) if own else 0
    return (chance.randrange(2 ** 2 ** many), tuple([chance.randrange(own) for k in range(many)]))


def made_up_rows(chance, ins, many):
    """So many lists of bits for so many ins."""
    return [[chance.randrange(2) for k in range(ins)] for row in range(many)]


def small_circuit(chance, most=(3, 4, 10, 3)):
    """A circuit with at most so many ins, memories, gates and outs."""
    return made_up_circuit(chance, *[chance.randint(0, one) for one in most])


def made_up_circuit(chance, ins, memories, gates, outs):
    """A circuit with so many of each, or no memories and outs where it has no place for them."""
    laid = [made_up_gate(chance, ins + memories + k) for k in range(gates)]
    many = ins + memories + gates
    kept = [(chance.randrange(2), chance.randrange(many)) for k in range(memories)]
    return (ins, kept, laid, [chance.randrange(many) for k in range(outs if many else 0)])


def chain(memories, gates):
    """An in, so many memories behind one another, then so many nots."""
    first = 1 + memories
    return (1, [(0, k) for k in range(memories)], [(1, (first - 1 + k,)) for k in range(gates)], [memories + gates])


def ring(memories, gates):
    """So many memories behind one another, and so many nots, in a ring."""
    kept = [(0, memories + gates - 1)] + [(0, k) for k in range(memories - 1)]
    return (0, kept, [(1, (memories - 1 + k,)) for k in range(gates)], [0])


# Plain circuits: made up, and points 30 and 31 a second time.

def made_up_plain(chance, most=(3, 2, 10, 3)):
    """A plain circuit with at most so many ins, memories, gates and outs."""
    ins, memories, gates, outs = [chance.randint(0, one) for one in most]
    laid = []
    for own in range(ins + memories, ins + memories + gates):
        # Mostly places close by, and seldom one that stands there twice: so there are inner gates.
        near = [place for place in range(own) if chance.random() < 0.5 or place > own - 3]
        many = min(chance.choice((0, 1, 1, 2, 2, 2, 2)), len(near))
        laid.append((chance.randrange(2) if many == 0 else (1, 8)[many - 1], tuple(sorted(chance.sample(near, many)))))
    many = ins + memories + gates
    kept = [(chance.randrange(2), chance.randrange(many)) for k in range(memories)]
    return (ins, kept, laid, [chance.randrange(many) for k in range(outs if many else 0)])


def made_up_shelf(chance):
    """A shelf of two to twenty gates."""
    found = [("inv", 1, 1, chance.randint(1, 9)), ("and", 2, 8, chance.randint(1, 9))]
    for k in range(chance.randint(0, 18)):
        many = chance.choice((1, 2, 2, 3, 3))
        tables = [table for table in range(2 ** 2 ** many) if all([
            any([(table >> t ^ table >> (t ^ 1 << place)) & 1 for t in range(2 ** many)]) for place in range(many)])]
        found.append(("g" + "abcdefghijklmnopqr"[k], many, chance.choice(tables), chance.randint(1, 12)))
    chance.shuffle(found)
    return found


def roots_by_point(circuit):
    """The roots of a plain circuit, rising."""
    ins, memories, gates, outs = circuit
    ahead = ins + len(memories)
    among = [place for table, places in gates for place in places]
    wanted = outs + [after for begin, after in memories]
    return [ahead + k for k, (table, places) in enumerate(gates)
            if places and (ahead + k in wanted or among.count(ahead + k) > 1)]


def cuts_by_point(circuit, gate):
    """The sorted list of the cuts of a gate."""
    ins, memories, gates, outs = circuit
    ahead = ins + len(memories)
    roots = roots_by_point(circuit)
    found = [sorted(set(gates[gate - ahead][1]))]
    for cut in found:
        for place in cut:
            if place >= ahead and gates[place - ahead][1] and place not in roots:
                new = sorted(set(cut) - {place} | set(gates[place - ahead][1]))
                if len(new) <= 3 and new not in found:
                    found.append(new)
    return sorted(found)


def table_by_point(circuit, gate, cut):
    """The table of a gate over a cut, bit by bit."""
    ins, memories, gates, outs = circuit

    def value(place, bits):
        if place in cut:
            return bits[list(cut).index(place)]
        table, places = gates[place - ins - len(memories)]
        return table >> sum([value(below, bits) << k for k, below in enumerate(places)]) & 1

    table, places = gates[gate - ins - len(memories)]
    found = 0
    for number in range(2 ** len(cut)):
        bits = [number >> k & 1 for k in range(len(cut))]
        found += (table >> sum([value(below, bits) << k for k, below in enumerate(places)]) & 1) << number
    return found


# Papers: a second way, by the points' own words: one trial after another, each value asked for by itself.

class PaperModel:
    """Two circuits and a paper of good form."""

    def __init__(self, circuit, other, paper):
        self.circuits = (circuit, other)
        self.helpers, self.held, self.claims, self.ends = paper
        self.statements = [((0, k), (1, k)) for k in range(circuit[0])]
        self.statements += [statement[:2] for statement in self.held + self.claims]

    def gate(self, spot):
        """The table and spots of a gate or helper, else None."""
        if spot[0] == 2:
            return self.helpers[spot[1]]
        ins, memories, gates, outs = self.circuits[spot[0]]
        if spot[1] < ins + len(memories):
            return None
        table, places = gates[spot[1] - ins - len(memories)]
        return table, [(spot[0], place) for place in places]

    def memory(self, spot):
        """The begin and the next's spot of a memory, else None."""
        ins, memories, gates, outs = self.circuits[spot[0]] if spot[0] < 2 else (0, [], [], [])
        if not ins <= spot[1] < ins + len(memories):
            return None
        begin, after = memories[spot[1] - ins]
        return begin, (spot[0], after)

    def by_table(self, spot, ask):
        table, spots = self.gate(spot)
        bits = [ask(below) for below in spots]
        return None if None in bits else table >> sum([bit << k for k, bit in enumerate(bits)]) & 1

    def meets_in(self, spot):
        if self.gate(spot):
            return any([self.meets_in(below) for below in self.gate(spot)[1]])
        return self.memory(spot) is None

    def first(self, spot):
        return self.by_table(spot, self.first) if self.gate(spot) else self.memory(spot)[0]

    def shown(self, statement, later):
        """Whether a statement's spots are shown alike, now or at the next turn."""
        spots, (free, given) = statement[:2], statement[2:]
        for bits in product((0, 1), repeat=len(free)):
            has = {}
            for thing, bit in zip(free, bits):
                for spot in [thing] if isinstance(thing, tuple) else self.statements[thing]:
                    has.setdefault(spot, set()).add(bit)
            if any([len(both) == 2 for both in has.values()]):
                continue

            def alone(spot):
                if spot in has:
                    return min(has[spot])
                return self.by_table(spot, alone) if self.gate(spot) else None

            def now(spot):
                if spot in has:
                    return min(has[spot])
                if self.gate(spot):
                    return self.by_table(spot, now)
                for number in given:
                    if self.statements[number][1] == spot:
                        return alone(self.statements[number][0])
                return None

            def afterwards(spot):
                if self.gate(spot):
                    return self.by_table(spot, afterwards)
                return now(self.memory(spot)[1]) if self.memory(spot) else None

            wanted = [(afterwards if later else now)(spot) for spot in spots]
            known = [[now(spot) for spot in self.statements[number]] for number in given]
            if None in wanted or any([None in both for both in known]):
                return False
            if all([first == second for first, second in known]) and wanted[0] != wanted[1]:
                return False
        return True

    def taken(self):
        wanted = [((0, place), (1, twin)) for place, twin in zip(self.circuits[0][3], self.circuits[1][3])]
        if [self.statements[number] for number in self.ends] != wanted:
            return False
        for statement in self.held:
            if any([self.meets_in(spot) for spot in statement[:2]]):
                return False
            if self.first(statement[0]) != self.first(statement[1]) or not self.shown(statement, True):
                return False
        return all([self.shown(statement, False) for statement in self.claims])


# Senses: a second way, with tables as dicts from all bits to a bit, the steps done in any order.

def place(number):
    return ("place", number)


def bit(value):
    return ("bit", value)


def memory(number):
    return ("memory", number)


def readings(ins, memories):
    """All readings of so many memories."""
    found = [[]]
    for k in range(memories):
        found = [reading + [told] for reading in found
                 for told in [bit(0), bit(1), memory(ins + k)] + [one for one in dict.fromkeys(reading) if one[0] == "memory"]]
    return found


class SensesModel:
    """The senses of a circuit by a reading, with the steps of each gate in an order by chance."""

    def __init__(self, circuit, reading, chance):
        self.chance = chance
        self.below = circuit[0] + len(circuit[1])
        self.senses = [place(k) for k in range(circuit[0])]
        self.senses += [told if told[0] == "bit" else place(told[1]) for told in reading]
        self.lefts = []
        for table, places in circuit[2]:
            self.put(table, [self.senses[one] for one in places])

    def put(self, number, senses):
        table = {bits: number >> sum([one << k for k, one in enumerate(bits)]) & 1
                 for bits in product((0, 1), repeat=len(senses))}
        steps = self.steps(table, senses)
        while steps:
            table, senses = self.chance.choice(steps)()
            steps = self.steps(table, senses)
        order = sorted(range(len(senses)), key=lambda k: senses[k])
        figures = {tuple([bits[k] for k in order]): told for bits, told in table.items()}
        left = (sum([told << sum([one << k for k, one in enumerate(bits)]) for bits, told in figures.items()]),
                tuple([senses[k][1] for k in order]))
        self.lefts.append(left)
        self.senses.append(self.sense(left))

    def sense(self, left):
        own = place(len(self.senses))
        if left[1] == ():
            return bit(left[0])
        if len(left[1]) == 1 and left[0] == 2:
            return place(left[1][0])
        for k, other in enumerate(self.lefts[:-1]):
            if other == left and self.senses[self.below + k] == place(self.below + k):
                return place(self.below + k)
        return own

    def read_by(self, sense):
        """The place that a not reads, or None of what is no not."""
        if sense[0] == "place" and sense[1] >= self.below:
            table, places = self.lefts[sense[1] - self.below]
            if table == 1 and len(places) == 1:
                return place(places[0])
        return None

    def steps(self, table, senses):
        """All steps that can be done."""
        found = []
        for k, sense in enumerate(senses):
            if sense[0] == "bit":
                found.append(lambda k=k, sense=sense: without(table, senses, k, lambda bits: sense[1]))
            for j in range(k):
                if senses[j] == sense and sense[0] == "place":
                    found.append(lambda k=k, j=j: without(table, senses, k, lambda bits: bits[j]))
            if all([table[bits] == table[bits[:k] + (1 - bits[k],) + bits[k + 1:]] for bits in table]):
                found.append(lambda k=k: without(table, senses, k, lambda bits: 1))
            if self.read_by(sense):
                found.append(lambda k=k, read=self.read_by(sense): (
                    {bits[:k] + (1 - bits[k],) + bits[k + 1:]: told for bits, told in table.items()},
                    senses[:k] + [read] + senses[k + 1:]))
        return found


def without(table, senses, k, fill):
    """A table and senses without place k, which has what fill tells of the others' bits."""
    found = {bits: table[bits[:k] + (fill(bits),) + bits[k:]] for bits in product((0, 1), repeat=len(senses) - 1)}
    return found, senses[:k] + senses[k + 1:]
