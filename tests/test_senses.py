"""Senses: what is left of gates by a reading of the memories, and which places are one."""

from itertools import product
from random import Random

from gatepapers.senses import senses_of
from tests.helper import (
    Checks, SensesModel, bit, lists_of_bits, made_up_circuit, memory, place, readings, values_by_point,
)


class Senses(Checks):
    def agrees(self, circuit, reading, seed=0):
        senses, lefts = senses_of(circuit, reading)
        model = SensesModel(circuit, reading, Random(seed))
        self.assertEqual((senses, lefts), (model.senses, model.lefts), (circuit, reading))
        self.same_values(circuit, reading, senses, lefts)

    def same_values(self, circuit, reading, senses, lefts):
        """That each sense has its place's value, and what is left its gate's, where memories are as the reading tells."""
        ins, memories = circuit[0], len(circuit[1])
        for bits in lists_of_bits(ins):
            for state in lists_of_bits(memories):
                state = [told[1] if told[0] == "bit" else state[told[1] - ins] for told in reading]
                values = values_by_point(circuit, state, bits)
                for value, (kind, thing) in zip(values, senses):
                    self.assertEqual(value, thing if kind == "bit" else values[thing])
                for value, (table, places) in zip(values[ins + memories:], lefts):
                    self.assertEqual(value, table >> sum([values[one] << k for k, one in enumerate(places)]) & 1)

    def gates(self, ins, reading, gates, wanted, left):
        """That the last of these gates has the sense wanted, and this is left of it."""
        circuit = (ins, [(0, 0)] * len(reading), gates, [])
        senses, lefts = senses_of(circuit, reading)
        self.assertEqual((senses[-1], lefts[-1]), (wanted, left))
        self.agrees(circuit, reading)

    def test_ins_and_memories(self):
        circuit = (2, [(0, 0)] * 5, [], [])
        reading = [memory(2), bit(1), memory(2), bit(0), memory(6)]
        self.assertEqual(senses_of(circuit, reading), (
            [place(0), place(1), place(2), bit(1), place(2), bit(0), place(6)], []))
        self.assertEqual(senses_of((0, [], [], []), []), ([], []))

    def test_a_gate_without_places_is_its_bit(self):
        self.gates(1, [], [(0, ())], bit(0), (0, ()))
        self.gates(1, [], [(1, ())], bit(1), (1, ()))

    def test_a_gate_that_stays(self):
        self.gates(2, [], [(8, (0, 1))], place(2), (8, (0, 1)))
        self.gates(1, [], [(1, (0,))], place(1), (1, (0,)))
        self.gates(3, [], [(216, (0, 1, 2))], place(3), (216, (0, 1, 2)))

    def test_a_bit_is_fixed(self):
        self.gates(1, [bit(1)], [(8, (0, 1))], place(0), (2, (0,)))
        self.gates(1, [bit(0)], [(8, (0, 1))], bit(0), (0, ()))
        self.gates(1, [bit(1)], [(6, (1, 0))], place(2), (1, (0,)))
        self.gates(2, [bit(1)], [(216, (2, 0, 1))], place(0), (2, (0,)))
        self.gates(2, [bit(0)], [(216, (2, 0, 1))], place(1), (2, (1,)))
        self.gates(2, [bit(0)], [(216, (0, 1, 2))], place(3), (8, (0, 1)))
        self.gates(2, [], [(1, ()), (232, (0, 1, 2))], place(3), (14, (0, 1)))

    def test_two_alike_are_joined(self):
        self.gates(1, [], [(8, (0, 0))], place(0), (2, (0,)))
        self.gates(1, [], [(6, (0, 0))], bit(0), (0, ()))
        self.gates(1, [], [(7, (0, 0))], place(1), (1, (0,)))
        self.gates(0, [memory(0), memory(0)], [(6, (0, 1))], bit(0), (0, ()))
        self.gates(2, [], [(150, (0, 1, 0))], place(1), (2, (1,)))
        self.gates(2, [], [(216, (0, 1, 0))], place(2), (8, (0, 1)))
        self.gates(2, [], [(6, (0, 1)), (6, (1, 0)), (9, (2, 3))], bit(1), (1, ()))

    def test_what_it_does_not_hang_on_is_left_out(self):
        self.gates(2, [], [(10, (0, 1))], place(0), (2, (0,)))
        self.gates(2, [], [(12, (0, 1))], place(1), (2, (1,)))
        self.gates(2, [], [(3, (0, 1))], place(2), (1, (1,)))
        self.gates(2, [], [(15, (0, 1))], bit(1), (1, ()))
        self.gates(3, [], [(204, (0, 1, 2))], place(1), (2, (1,)))
        self.gates(3, [], [(90, (2, 1, 0))], place(3), (6, (0, 2)))

    def test_a_not_is_exchanged(self):
        self.gates(1, [], [(1, (0,)), (1, (1,))], place(0), (2, (0,)))
        self.gates(2, [], [(1, (0,)), (8, (2, 1))], place(3), (4, (0, 1)))
        self.gates(2, [], [(1, (0,)), (8, (1, 2))], place(3), (4, (0, 1)))
        self.gates(1, [], [(1, (0,)), (8, (0, 1))], bit(0), (0, ()))
        self.gates(1, [], [(1, (0,)), (14, (1, 0))], bit(1), (1, ()))
        self.gates(2, [], [(1, (0,)), (1, (1,)), (6, (2, 3))], place(4), (6, (0, 1)))
        # A not is what is left of a gate, not what it was.
        self.gates(2, [bit(1)], [(7, (0, 2)), (8, (1, 3))], place(4), (4, (0, 1)))
        self.gates(2, [], [(7, (0, 0)), (8, (1, 2))], place(3), (4, (0, 1)))

    def test_places_are_put_in_rising_order(self):
        self.gates(2, [], [(4, (1, 0))], place(2), (2, (0, 1)))
        self.gates(3, [], [(216, (2, 0, 1))], place(3), (172, (0, 1, 2)))
        self.gates(2, [], [(8, (0, 1)), (2, (2, 0))], place(3), (4, (0, 2)))

    def test_a_gate_that_is_left_the_same(self):
        self.gates(2, [], [(8, (0, 1)), (8, (0, 1))], place(2), (8, (0, 1)))
        self.gates(2, [], [(2, (0, 1)), (4, (1, 0))], place(2), (2, (0, 1)))
        self.gates(2, [], [(1, (0,)), (8, (2, 1)), (2, (1, 0))], place(3), (4, (0, 1)))
        self.gates(2, [], [(1, (0,)), (8, (2, 1)), (4, (0, 1))], place(3), (4, (0, 1)))
        self.gates(2, [], [(8, (0, 1)), (8, (1, 0)), (8, (0, 1))], place(2), (8, (0, 1)))
        self.gates(2, [], [(8, (0, 1)), (8, (0, 1)), (1, (2,)), (1, (3,))], place(4), (1, (2,)))
        self.gates(1, [memory(1), memory(1)], [(8, (0, 1)), (8, (0, 2))], place(3), (8, (0, 1)))
        self.gates(1, [memory(1), memory(2)], [(8, (0, 1)), (8, (0, 2))], place(4), (8, (0, 2)))
        # The same table and other places, or the same places and another table, are not the same.
        self.gates(2, [], [(8, (0, 1)), (14, (0, 1))], place(3), (14, (0, 1)))
        self.gates(3, [], [(8, (0, 1)), (8, (0, 2))], place(4), (8, (0, 2)))

    def test_what_stands_on_a_gate_has_its_sense(self):
        gates = [(8, (0, 1)), (14, (2, 2)), (1, (3,)), (6, (4, 0))]
        self.gates(2, [], gates, place(5), (9, (0, 2)))

    def test_every_table_over_all_senses(self):
        # Places 0 to 8 are an in, an in, 0, 1, a memory, the same one, nots of an in and a memory, a gate.
        reading = [bit(0), bit(1), memory(4), memory(4)]
        ahead = [(1, (0,)), (1, (4,)), (6, (0, 4))]
        for many in range(3):
            for table in range(2 ** 2 ** many):
                for places in product(range(9), repeat=many):
                    self.agrees((2, [(0, 0)] * 4, ahead + [(table, places)], []), reading, table)
        chance = Random(6)
        for table in range(256):
            gates = [(table, tuple([chance.randrange(9) for k in range(3)])) for gate in range(6)]
            self.agrees((2, [(0, 0)] * 4, ahead + gates, []), reading, table)

    def test_circuits_made_up_with_all_readings(self):
        chance = Random(7)
        for memories, many in ((0, 40), (1, 30), (2, 12), (3, 5)):
            for k in range(many):
                circuit = made_up_circuit(chance, chance.randint(0 if memories else 1, 2), memories, 10, 1)
                for reading in readings(circuit[0], memories):
                    self.agrees(circuit, reading, k)

    def test_a_reading_that_tells_each_memory_itself(self):
        chance = Random(8)
        for k in range(60):
            circuit = made_up_circuit(chance, 2, 2, 25, 1)
            self.agrees(circuit, [memory(2), memory(3)], k)

    def test_own_lists(self):
        circuit = (2, [(0, 0)] * 2, [(8, (0, 1)), (6, (2, 4)), (1, (3,))], [5])
        self.own_lists(senses_of, circuit, [memory(2), bit(1)])
