"""Plain circuits: nots and boths alone."""

from itertools import product
from random import Random

from gatepapers.circuits import run_bits
from gatepapers.flat import flat
from gatepapers.judge import parted
from gatepapers.papers import looked
from gatepapers.plain import is_plain, plain
from gatepapers.tidy import tidied
from tests.helper import Checks, Maker, lists_of_bits, made_up_circuit, small_circuit


class IsPlain(Checks):
    def test_one_gate(self):
        for many in range(4):
            for table in range(2 ** 2 ** many):
                for places in product(range(3), repeat=many):
                    good = many == 0 or (many, table) == (1, 1) or (many == 2 and table == 8 and places[0] < places[1])
                    self.assertIs(is_plain((3, [], [(table, places)], [])), good, (table, places))

    def test_no_gates(self):
        self.assertIs(is_plain((0, [], [], [])), True)
        self.assertIs(is_plain((2, [(0, 1)], [], [2])), True)

    def test_one_of_many(self):
        good = [(1, ()), (1, (0,)), (8, (0, 2)), (0, ()), (8, (3, 4)), (1, (6,))]
        self.assertIs(is_plain((1, [(0, 6)], good, [7])), True)
        for bad in ((2, (0,)), (8, (0, 0)), (8, (1, 0)), (14, (0, 1)), (7, (0, 1)), (128, (0, 1, 1)), (0, (0,)), (3, (1,))):
            for k in range(len(good) + 1):
                gates = [(table, tuple([place + (place >= 2 + k) for place in places])) for table, places in good]
                self.assertIs(is_plain((1, [(0, 0)], gates[:k] + [bad] + gates[k:], [])), False)


class Plain(Checks):
    def make(self, circuit, model=False):
        """That a circuit is made plain, its ins and begins as they were, with a paper that is taken."""
        new, paper = plain(circuit)
        self.assertIs(is_plain(new), True, new)
        self.assertEqual((new[0], len(new[3])), (circuit[0], len(circuit[3])))
        self.assertEqual([begin for begin, after in new[1]], [begin for begin, after in circuit[1]])
        self.assertLessEqual(len(new[2]), 20 * len(circuit[2]))
        self.same_by_paper(circuit, new, paper, model)
        return new

    def test_every_table(self):
        for many in range(4):
            for table in range(2 ** 2 ** many):
                circuit = (many, [], [(table, tuple(range(many)))], [many])
                new = self.make(circuit, model=True)
                rows = lists_of_bits(many)
                self.assertEqual(run_bits(new, rows), [[table >> sum([bit << k for k, bit in enumerate(bits)]) & 1]
                                                       for bits in rows])

    def test_places_alike_and_in_any_order(self):
        for many in (1, 2, 3):
            for places in product(range(3), repeat=many):
                for table in range(2 ** 2 ** many) if many < 3 else range(0, 256, 3):
                    circuit = (3, [], [(table, places)], [3])
                    self.assertIsNone(parted(circuit, self.make(circuit)))

    def test_gates_over_gates(self):
        # Places of gates that come to the same new place, or to a gate without places.
        chance = Random(61)
        for table in range(256):
            ahead = [(2, (0,)), (10, (0, 1)), (1, ()), (12, (1, 2)), (0, (0, 1)), (1, (0,))]
            places = tuple([chance.randrange(8) for k in range(3)])
            circuit = (2, [], ahead + [(table, places), (table, (8, 3, 0))], [8, 9])
            self.assertIsNone(parted(circuit, self.make(circuit, model=table % 8 == 0)))

    def test_nothing_there(self):
        self.assertEqual(self.make((0, [], [], [])), (0, [], [], []))
        self.assertEqual(self.make((2, [(1, 0), (0, 3)], [], [3, 1])), (2, [(1, 0), (0, 3)], [], [3, 1]))
        self.make((2, [(1, 3)], [(6, (0, 2))], []))
        self.make((2, [], [(6, (0, 1))], [2]))
        self.make((0, [], [(1, ()), (0, ())], [1, 0]))

    def test_plain_gates(self):
        circuit = (2, [(0, 4), (1, 0)], [(1, (0,)), (8, (2, 4)), (0, ()), (1, (5,))], [7, 6, 5])
        self.assertIs(is_plain(circuit), True)
        self.make(circuit, model=True)

    def test_memories(self):
        self.make((1, [(0, 3), (1, 1)], [(6, (1, 2))], [3, 2]), model=True)
        # A next that is a gate that tells the same as its place.
        self.make((1, [(0, 2)], [(2, (1,))], [2, 1]), model=True)
        self.make((1, [(1, 2)], [(2, (0,))], [2, 1]), model=True)

    def test_circuits_made_up(self):
        chance = Random(62)
        for k in range(200):
            self.make(small_circuit(chance, (3, 4, 12, 3)), model=k % 10 == 0)
        self.make(made_up_circuit(chance, 20, 30, 500, 40))

    def test_flat_circuits(self):
        for seed in range(25):
            circuit = flat(Maker(seed).program())
            self.make(circuit)
            self.make(tidied(circuit)[0])

    def test_a_spoilt_circuit_is_not_taken(self):
        circuit = (2, [(0, 3)], [(6, (0, 2)), (216, (1, 3, 0))], [4])
        new, paper = plain(circuit)
        self.assertGreater(self.not_taken_spoilt(circuit, new, paper), 20)
        ins, memories, gates, outs = new
        self.assertIs(looked(circuit, (ins, [(1, memories[0][1])], gates, outs), paper), False)

    def test_own_lists(self):
        self.own_lists(plain, (2, [(0, 3), (1, 0)], [(6, (0, 2)), (216, (1, 3, 0)), (1, ())], [5, 4, 6]))
        self.own_lists(is_plain, (2, [(0, 3)], [(6, (0, 2))], [3]))
