"""Senses: what is left of gates by a reading of the memories, and which places are one."""

from itertools import product
from random import Random

from gatepapers.senses import senses_of
from tests.helper import Checks, lists_of_bits, made_up_circuit, values_by_point


def place(number):
    return ("place", number)


def bit(value):
    return ("bit", value)


def memory(number):
    return ("memory", number)


def readings(ins, memories):
    """All readings of so many memories."""
    found = [[]]
    for k in range(memories):
        found = [reading + [told] for reading in found
                 for told in [bit(0), bit(1), memory(ins + k)] + [one for one in dict.fromkeys(reading) if one[0] == "memory"]]
    return found


# A second way: tables as dicts from all bits to a bit, the steps done in any order.

class Model:
    """The senses of a circuit by a reading, with the steps of each gate in an order by chance."""

    def __init__(self, circuit, reading, chance):
        self.chance = chance
        self.below = circuit[0] + len(circuit[1])
        self.senses = [place(k) for k in range(circuit[0])]
        self.senses += [told if told[0] == "bit" else place(told[1]) for told in reading]
        self.lefts = []
        for table, places in circuit[2]:
            self.put(table, [self.senses[one] for one in places])

    def put(self, number, senses):
        table = {bits: number >> sum([one << k for k, one in enumerate(bits)]) & 1
                 for bits in product((0, 1), repeat=len(senses))}
        steps = self.steps(table, senses)
        while steps:
            table, senses = self.chance.choice(steps)()
            steps = self.steps(table, senses)
        order = sorted(range(len(senses)), key=lambda k: senses[k])
        figures = {tuple([bits[k] for k in order]): told for bits, told in table.items()}
        left = (sum([told << sum([one << k for k, one in enumerate(bits)]) for bits, told in figures.items()]),
                tuple([senses[k][1] for k in order]))
        self.lefts.append(left)
        self.senses.append(self.sense(left))

    def sense(self, left):
        own = place(len(self.senses))
        if left[1] == ():
            return bit(left[0])
        if len(left[1]) == 1 and left[0] == 2:
            return place(left[1][0])
        for k, other in enumerate(self.lefts[:-1]):
            if other == left and self.senses[self.below + k] == place(self.below + k):
                return place(self.below + k)
        return own

    def read_by(self, sense):
        """The place that a not reads, or None of what is no not."""
        if sense[0] == "place" and sense[1] >= self.below:
            table, places = self.lefts[sense[1] - self.below]
            if table == 1 and len(places) == 1:
                return place(places[0])
        return None

    def steps(self, table, senses):
        """All steps that can be done."""
        found = []
        for k, sense in enumerate(senses):
            if sense[0] == "bit":
                found.append(lambda k=k, sense=sense: without(table, senses, k, lambda bits: sense[1]))
            for j in range(k):
                if senses[j] == sense and sense[0] == "place":
                    found.append(lambda k=k, j=j: without(table, senses, k, lambda bits: bits[j]))
            if all([table[bits] == table[bits[:k] + (1 - bits[k],) + bits[k + 1:]] for bits in table]):
                found.append(lambda k=k: without(table, senses, k, lambda bits: 1))
            if self.read_by(sense):
                found.append(lambda k=k, read=self.read_by(sense): (
                    {bits[:k] + (1 - bits[k],) + bits[k + 1:]: told for bits, told in table.items()},
                    senses[:k] + [read] + senses[k + 1:]))
        return found


def without(table, senses, k, fill):
    """A table and senses without place k, which has what fill tells of the others' bits."""
    found = {bits: table[bits[:k] + (fill(bits),) + bits[k:]] for bits in product((0, 1), repeat=len(senses) - 1)}
    return found, senses[:k] + senses[k + 1:]


class Senses(Checks):
    def agrees(self, circuit, reading, seed=0):
        senses, lefts = senses_of(circuit, reading)
        model = Model(circuit, reading, Random(seed))
        self.assertEqual((senses, lefts), (model.senses, model.lefts), (circuit, reading))
        self.same_values(circuit, reading, senses, lefts)

    def same_values(self, circuit, reading, senses, lefts):
        """That each sense has its place's value, and what is left its gate's, where memories are as the reading tells."""
        ins, memories = circuit[0], len(circuit[1])
        for bits in lists_of_bits(ins):
            for state in lists_of_bits(memories):
                state = [told[1] if told[0] == "bit" else state[told[1] - ins] for told in reading]
                values = values_by_point(circuit, state, bits)
                for value, (kind, thing) in zip(values, senses):
                    self.assertEqual(value, thing if kind == "bit" else values[thing])
                for value, (table, places) in zip(values[ins + memories:], lefts):
                    self.assertEqual(value, table >> sum([values[one] << k for k, one in enumerate(places)]) & 1)

    def gates(self, ins, reading, gates, wanted, left):
        """That the last of these gates has the sense wanted, and this is left of it."""
        circuit = (ins, [(0, 0)] * len(reading), gates, [])
        senses, lefts = senses_of(circuit, reading)
        self.assertEqual((senses[-1], lefts[-1]), (wanted, left))
        self.agrees(circuit, reading)

    def test_ins_and_memories(self):
        circuit = (2, [(0, 0)] * 5, [], [])
        reading = [memory(2), bit(1), memory(2), bit(0), memory(6)]
        self.assertEqual(senses_of(circuit, reading), (
            [place(0), place(1), place(2), bit(1), place(2), bit(0), place(6)], []))
        self.assertEqual(senses_of((0, [], [], []), []), ([], []))

    def test_a_gate_without_places_is_its_bit(self):
        self.gates(1, [], [(0, ())], bit(0), (0, ()))
        self.gates(1, [], [(1, ())], bit(1), (1, ()))

    def test_a_gate_that_stays(self):
        self.gates(2, [], [(8, (0, 1))], place(2), (8, (0, 1)))
        self.gates(1, [], [(1, (0,))], place(1), (1, (0,)))
        self.gates(3, [], [(216, (0, 1, 2))], place(3), (216, (0, 1, 2)))

    def test_a_bit_is_fixed(self):
        self.gates(1, [bit(1)], [(8, (0, 1))], place(0), (2, (0,)))
        self.gates(1, [bit(0)], [(8, (0, 1))], bit(0), (0, ()))
        self.gates(1, [bit(1)], [(6, (1, 0))], place(2), (1, (0,)))
        self.gates(2, [bit(1)], [(216, (2, 0, 1))], place(0), (2, (0,)))
        self.gates(2, [bit(0)], [(216, (2, 0, 1))], place(1), (2, (1,)))
        self.gates(2, [bit(0)], [(216, (0, 1, 2))], place(3), (8, (0, 1)))
        self.gates(2, [], [(1, ()), (232, (0, 1, 2))], place(3), (14, (0, 1)))

    def test_two_alike_are_joined(self):
        self.gates(1, [], [(8, (0, 0))], place(0), (2, (0,)))
        self.gates(1, [], [(6, (0, 0))], bit(0), (0, ()))
        self.gates(1, [], [(7, (0, 0))], place(1), (1, (0,)))
        self.gates(0, [memory(0), memory(0)], [(6, (0, 1))], bit(0), (0, ()))
        self.gates(2, [], [(150, (0, 1, 0))], place(1), (2, (1,)))
        self.gates(2, [], [(216, (0, 1, 0))], place(2), (8, (0, 1)))
        self.gates(2, [], [(6, (0, 1)), (6, (1, 0)), (9, (2, 3))], bit(1), (1, ()))

    def test_what_it_does_not_hang_on_is_left_out(self):
        self.gates(2, [], [(10, (0, 1))], place(0), (2, (0,)))
        self.gates(2, [], [(12, (0, 1))], place(1), (2, (1,)))
        self.gates(2, [], [(3, (0, 1))], place(2), (1, (1,)))
        self.gates(2, [], [(15, (0, 1))], bit(1), (1, ()))
        self.gates(3, [], [(204, (0, 1, 2))], place(1), (2, (1,)))
        self.gates(3, [], [(90, (2, 1, 0))], place(3), (6, (0, 2)))

    def test_a_not_is_exchanged(self):
        self.gates(1, [], [(1, (0,)), (1, (1,))], place(0), (2, (0,)))
        self.gates(2, [], [(1, (0,)), (8, (2, 1))], place(3), (4, (0, 1)))
        self.gates(2, [], [(1, (0,)), (8, (1, 2))], place(3), (4, (0, 1)))
        self.gates(1, [], [(1, (0,)), (8, (0, 1))], bit(0), (0, ()))
        self.gates(1, [], [(1, (0,)), (14, (1, 0))], bit(1), (1, ()))
        self.gates(2, [], [(1, (0,)), (1, (1,)), (6, (2, 3))], place(4), (6, (0, 1)))
        # A not is what is left of a gate, not what it was.
        self.gates(2, [bit(1)], [(7, (0, 2)), (8, (1, 3))], place(4), (4, (0, 1)))
        self.gates(2, [], [(7, (0, 0)), (8, (1, 2))], place(3), (4, (0, 1)))

    def test_places_are_put_in_rising_order(self):
        self.gates(2, [], [(4, (1, 0))], place(2), (2, (0, 1)))
        self.gates(3, [], [(216, (2, 0, 1))], place(3), (172, (0, 1, 2)))
        self.gates(2, [], [(8, (0, 1)), (2, (2, 0))], place(3), (4, (0, 2)))

    def test_a_gate_that_is_left_the_same(self):
        self.gates(2, [], [(8, (0, 1)), (8, (0, 1))], place(2), (8, (0, 1)))
        self.gates(2, [], [(2, (0, 1)), (4, (1, 0))], place(2), (2, (0, 1)))
        self.gates(2, [], [(1, (0,)), (8, (2, 1)), (2, (1, 0))], place(3), (4, (0, 1)))
        self.gates(2, [], [(1, (0,)), (8, (2, 1)), (4, (0, 1))], place(3), (4, (0, 1)))
        self.gates(2, [], [(8, (0, 1)), (8, (1, 0)), (8, (0, 1))], place(2), (8, (0, 1)))
        self.gates(2, [], [(8, (0, 1)), (8, (0, 1)), (1, (2,)), (1, (3,))], place(4), (1, (2,)))
        self.gates(1, [memory(1), memory(1)], [(8, (0, 1)), (8, (0, 2))], place(3), (8, (0, 1)))
        self.gates(1, [memory(1), memory(2)], [(8, (0, 1)), (8, (0, 2))], place(4), (8, (0, 2)))
        # The same table and other places, or the same places and another table, are not the same.
        self.gates(2, [], [(8, (0, 1)), (14, (0, 1))], place(3), (14, (0, 1)))
        self.gates(3, [], [(8, (0, 1)), (8, (0, 2))], place(4), (8, (0, 2)))

    def test_what_stands_on_a_gate_has_its_sense(self):
        gates = [(8, (0, 1)), (14, (2, 2)), (1, (3,)), (6, (4, 0))]
        self.gates(2, [], gates, place(5), (9, (0, 2)))

    def test_every_table_over_all_senses(self):
        # Places 0 to 8 are an in, an in, 0, 1, a memory, the same one, nots of an in and a memory, a gate.
        reading = [bit(0), bit(1), memory(4), memory(4)]
        ahead = [(1, (0,)), (1, (4,)), (6, (0, 4))]
        for many in range(3):
            for table in range(2 ** 2 ** many):
                for places in product(range(9), repeat=many):
                    self.agrees((2, [(0, 0)] * 4, ahead + [(table, places)], []), reading, table)
        chance = Random(6)
        for table in range(256):
            gates = [(table, tuple([chance.randrange(9) for k in range(3)])) for gate in range(6)]
            self.agrees((2, [(0, 0)] * 4, ahead + gates, []), reading, table)

    def test_circuits_made_up_with_all_readings(self):
        chance = Random(7)
        for memories, many in ((0, 40), (1, 30), (2, 12), (3, 5)):
            for k in range(many):
                circuit = made_up_circuit(chance, chance.randint(0 if memories else 1, 2), memories, 10, 1)
                for reading in readings(circuit[0], memories):
                    self.agrees(circuit, reading, k)

    def test_a_reading_that_tells_each_memory_itself(self):
        chance = Random(8)
        for k in range(60):
            circuit = made_up_circuit(chance, 2, 2, 25, 1)
            self.agrees(circuit, [memory(2), memory(3)], k)

    def test_own_lists(self):
        circuit = (2, [(0, 0)] * 2, [(8, (0, 1)), (6, (2, 4)), (1, (3,))], [5])
        self.own_lists(senses_of, circuit, [memory(2), bit(1)])
