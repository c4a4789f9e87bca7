"""Tidied circuits: the widest reading, the circuit that it makes, and the paper for it."""

from random import Random

from gatepapers.circuits import is_circuit
from gatepapers.flat import flat
from gatepapers.papers import looked
from gatepapers.reading import read
from gatepapers.senses import senses_of
from gatepapers.tidy import reading, tidied
from tests.helper import (
    Checks, Maker, SensesModel, bit, made_up_circuit, memory, place, readings, small_circuit,
)


def is_kept(circuit, told):
    """Whether a reading is kept, by the second way to reckon senses."""
    ins, memories, gates, outs = circuit
    for (begin, after), (kind, thing) in zip(memories, told):
        if begin != (thing if kind == "bit" else memories[thing - ins][0]):
            return False
    senses = SensesModel(circuit, told, Random(0)).senses
    for (begin, after), (kind, thing) in zip(memories, told):
        if senses[after] != (bit(thing) if kind == "bit" else senses[memories[thing - ins][1]]):
            return False
    return True


def tidied_by_point(circuit):
    """The tidied circuit, by the widest reading and senses reckoned a second way."""
    ins, memories, gates, outs = circuit
    model = SensesModel(circuit, reading(circuit), Random(1))
    needed = set()

    def need(sense):
        if sense in needed:
            return
        needed.add(sense)
        kind, thing = sense
        if kind == "place" and ins <= thing < model.below:
            need(model.senses[memories[thing - ins][1]])
        if kind == "place" and thing >= model.below:
            for below in model.lefts[thing - model.below][1]:
                need(place(below))

    for out in outs:
        need(model.senses[out])
    kept = [k for k in range(len(memories)) if place(ins + k) in needed]
    bits = [b for b in (0, 1) if bit(b) in needed]
    laid = [k for k in range(len(gates)) if place(model.below + k) in needed]
    order = [place(k) for k in range(ins)] + [place(ins + k) for k in kept] + [bit(b) for b in bits]
    order += [place(model.below + k) for k in laid]
    return (
        ins,
        [(memories[k][0], order.index(model.senses[memories[k][1]])) for k in kept],
        [(b, ()) for b in bits] + [(model.lefts[k][0], tuple([order.index(place(below)) for below in model.lefts[k][1]]))
                                   for k in laid],
        [order.index(model.senses[out]) for out in outs],
    )


class Readings(Checks):
    def widest(self, circuit, wanted=None):
        """That the reading told is kept, and wider than all others that are."""
        told = reading(circuit)
        if wanted is not None:
            self.assertEqual(told, wanted, circuit)
        self.assertEqual(len(told), len(circuit[1]))
        for k, (kind, thing) in enumerate(told):
            self.whole(thing)
            if kind == "bit":
                self.assertIn(thing, (0, 1))
            else:
                self.assertEqual(kind, "memory")
                self.assertLessEqual(thing, circuit[0] + k)
                self.assertEqual(told[thing - circuit[0]], memory(thing))
        self.assertTrue(is_kept(circuit, told), (circuit, told))
        many = 0
        for other in readings(circuit[0], len(circuit[1])):
            if is_kept(circuit, other):
                many += 1
                for k, one in enumerate(other):
                    self.assertTrue(one[0] == "memory" or told[k] == one, (circuit, told, other))
                    self.assertTrue(all([told[j] == told[k] for j in range(k) if other[j] == one]), (circuit, told, other))
        return many

    def test_no_memories(self):
        self.widest((0, [], [], []), [])
        self.widest((2, [], [(8, (0, 1))], [2]), [])

    def test_one_memory(self):
        self.widest((1, [(0, 0)], [], [1]), [memory(1)])
        self.widest((0, [(0, 0)], [], [0]), [bit(0)])
        self.widest((0, [(1, 0)], [], [0]), [bit(1)])
        self.widest((0, [(0, 1)], [(1, (0,))], [0]), [memory(0)])
        self.widest((1, [(0, 2)], [(8, (0, 1))], []), [bit(0)])
        self.widest((1, [(1, 2)], [(8, (0, 1))], []), [memory(1)])
        self.widest((1, [(1, 2)], [(14, (0, 1))], []), [bit(1)])
        # A gate without places as the next.
        for begin in (0, 1):
            for other in (0, 1):
                self.widest((0, [(begin, 1)], [(other, ())], []), [bit(begin) if begin == other else memory(0)])

    def test_steady_only_together(self):
        self.widest((0, [(0, 1), (0, 0)], [], [0]), [bit(0), bit(0)])
        self.widest((0, [(1, 1), (1, 2), (1, 0)], [], [0]), [bit(1)] * 3)
        self.widest((1, [(0, 3), (0, 4)], [(8, (0, 2)), (8, (0, 1))], [1]), [bit(0), bit(0)])
        # One begins with a 0, the other with a 1: 0 is the not of 1, and 1 of 0.
        self.widest((0, [(0, 2), (1, 3)], [(1, (1,)), (1, (0,))], [0, 1]), [bit(0), bit(1)])
        # Where one of them is not steady, neither is the other.
        self.widest((1, [(0, 2), (0, 3)], [(14, (0, 2))], [1]), [memory(1), memory(2)])
        self.widest((1, [(0, 3), (0, 0)], [(8, (0, 2))], [1]), [memory(1), memory(2)])

    def test_alike_only_together(self):
        circuit = (1, [(0, 5), (0, 6), (1, 7), (1, 8)], [(6, (0, 3)), (6, (0, 4)), (9, (0, 1)), (9, (0, 2))], [1, 2, 3, 4])
        self.widest(circuit, [memory(1), memory(1), memory(3), memory(3)])
        crossed = (1, [(0, 5), (0, 6), (1, 8), (1, 7)], circuit[2], circuit[3])
        self.widest(crossed, [memory(1), memory(1), memory(3), memory(3)])
        # With one of the four begun otherwise no two are.
        other = (1, [(0, 5), (0, 6), (1, 7), (0, 8)], circuit[2], circuit[3])
        self.widest(other, [memory(1), memory(2), memory(3), memory(4)])

    def test_alike_that_begin_unlike(self):
        self.widest((1, [(0, 0), (1, 0)], [], [1, 2]), [memory(1), memory(2)])
        self.widest((1, [(0, 0), (0, 0)], [], [1, 2]), [memory(1), memory(1)])
        self.widest((1, [(0, 0), (1, 0), (0, 0), (1, 0)], [], []), [memory(1), memory(2), memory(1), memory(2)])
        # Each is the other bit from the second turn on, and so alike but not steady.
        self.widest((0, [(0, 3), (0, 3), (1, 3)], [(1, ())], []), [memory(0), memory(0), bit(1)])

    def test_nexts_that_are_nots_of_one_another(self):
        for begin in (0, 1):
            self.widest((0, [(begin, 2), (begin, 3)], [(1, (1,)), (1, (0,))], [0]), [memory(0), memory(0)])
            self.widest((0, [(begin, 2), (1 - begin, 3)], [(1, (1,)), (1, (0,))], [0]), [bit(begin), bit(1 - begin)])
            # A memory and one that keeps its not are not alike, by whatever reading.
            self.widest((1, [(begin, 0), (1 - begin, 3)], [(1, (0,))], [1, 2]), [memory(1), memory(2)])
            self.widest((1, [(begin, 0), (begin, 3)], [(1, (0,))], [1, 2]), [memory(1), memory(2)])

    def test_told_twice_and_three_times_over(self):
        for many in (2, 3, 4):
            gates = [(6, (0, 1 + k)) for k in range(many)]
            circuit = (1, [(0, 1 + many + k) for k in range(many)], gates, list(range(1, 1 + many)))
            self.widest(circuit, [memory(1)] * many)
            # In a ring: each one's next hangs on the one behind it.
            turned = (1, [(0, 1 + many + (k + 1) % many) for k in range(many)], gates, circuit[3])
            self.widest(turned, [memory(1)] * many)
        pairs = (2, [(0, 6), (0, 7), (0, 8), (0, 9)], [(6, (0, 2)), (6, (0, 3)), (6, (1, 4)), (6, (1, 5))], [])
        self.widest(pairs, [memory(2), memory(2), memory(4), memory(4)])

    def test_rows_of_memories(self):
        # What comes in goes from one to the next, so each is one turn behind.
        many = 4
        self.widest((1, [(0, k) for k in range(many)], [], [many]), [memory(1 + k) for k in range(many)])
        self.widest((1, [(0, 0), (0, 1), (0, 0), (0, 3)], [], []), [memory(1), memory(2), memory(1), memory(2)])
        # The last is the first one's next: steady where they begin alike, else a ring.
        self.widest((0, [(0, 2), (0, 0), (0, 1)], [], []), [bit(0)] * 3)
        self.widest((0, [(1, 2), (0, 0), (0, 1)], [], []), [memory(0), memory(1), memory(2)])

    def test_by_senses_of_gates(self):
        # The nexts are one gate written in two ways.
        gates = [(8, (0, 1)), (1, (0,)), (2, (5, 1)), (1, (4,))]
        self.widest((2, [(0, 4), (0, 6)], gates, []), [memory(2), memory(3)])
        self.widest((2, [(0, 4), (0, 6)], [(8, (0, 1)), (1, (0,)), (4, (5, 1))], []), [memory(2), memory(2)])

    def test_against_all_readings(self):
        chance = Random(21)
        kept = [self.widest(small_circuit(chance, (2, 4, 5, 1))) for k in range(250)]
        kept += [self.widest(made_up_circuit(chance, chance.randint(0, 1), 4, chance.randint(0, 3), 1)) for k in range(120)]
        self.assertGreater(sum([many > 1 for many in kept]), 100)

    def test_memories_copied(self):
        # Each memory three times over, and what reads it reads any of the three.
        chance = Random(22)
        for k in range(120):
            ins, memories, gates, outs = made_up_circuit(chance, chance.randint(0, 2), chance.randint(1, 4), 6, 2)
            many, old = len(memories), ins + len(memories)

            def copied(place):
                if ins <= place < old:
                    return place + many * chance.randrange(3)
                return place if place < ins else place + 2 * many

            copy = (ins, [(begin, copied(after)) for turn in range(3) for begin, after in memories],
                    [(table, tuple([copied(below) for below in places])) for table, places in gates],
                    [copied(out) for out in outs])
            told = reading(copy)
            # Another memory may be alike by a gate's places alone: but never is it parted from its copies.
            for j in range(many):
                self.assertEqual([told[j]] * 3, told[j::many], copy)
            self.assertTrue(is_kept(copy, told))

    def test_own_lists(self):
        self.own_lists(reading, (1, [(0, 0), (0, 0), (1, 3)], [], [1, 2]))
        self.own_lists(reading, (0, [], [], []))


class Tidied(Checks):
    def tidy(self, circuit, wanted=None, model=True):
        """That a circuit is tidied by the points, with a paper that is taken, and once for all."""
        new, paper = tidied(circuit)
        if wanted is not None:
            self.assertEqual(new, wanted, circuit)
        self.assertEqual(new, tidied_by_point(circuit), circuit)
        self.same_by_paper(circuit, new, paper, model)
        again, itself = tidied(new)
        self.assertEqual(again, new, circuit)
        self.assertIs(looked(new, again, itself), True)
        self.nothing_left(new)
        return new

    def nothing_left(self, circuit):
        """That nothing in a circuit is steady or alike by the widest reading, but its gates without places."""
        told = reading(circuit)
        self.assertEqual(told, [memory(circuit[0] + k) for k in range(len(circuit[1]))], circuit)
        senses, lefts = senses_of(circuit, told)
        ahead = circuit[0] + len(circuit[1])
        for k, sense in enumerate(senses):
            steady = k >= ahead and not circuit[2][k - ahead][1]
            self.assertEqual(sense, bit(circuit[2][k - ahead][0]) if steady else place(k), circuit)

    def test_nothing_at_all(self):
        self.tidy((0, [], [], []), (0, [], [], []))
        self.tidy((3, [], [], []), (3, [], [], []))
        self.tidy((3, [], [], [2, 0, 2]), (3, [], [], [2, 0, 2]))

    def test_no_outs(self):
        self.tidy((1, [(0, 2)], [(6, (0, 1))], []), (1, [], [], []))
        self.tidy((2, [], [(1, ()), (8, (0, 1))], []), (2, [], [], []))

    def test_no_memories(self):
        self.tidy((2, [], [(8, (0, 1)), (6, (0, 1))], [3]), (2, [], [(6, (0, 1))], [2]))

    def test_no_gates(self):
        self.tidy((1, [(0, 0), (1, 1), (0, 3)], [], [2, 3, 1]), (1, [(0, 0), (1, 1)], [(0, ())], [2, 3, 1]))

    def test_all_ins_stay(self):
        self.tidy((4, [], [(1, (2,))], [4]), (4, [], [(1, (2,))], [4]))
        self.tidy((4, [(0, 4)], [], [4]), (4, [], [(0, ())], [4]))

    def test_needed_memories_alone_in_order(self):
        # Of memories 1 to 4 the out needs the last, that one the second; the others need one another alone.
        circuit = (1, [(0, 3), (1, 0), (1, 1), (0, 2)], [(6, (1, 3))], [4])
        self.tidy(circuit, (1, [(1, 0), (0, 1)], [], [2]))
        self.tidy((1, [(0, 2), (0, 3), (0, 0)], [], [1]), (1, [(0, 2), (0, 3), (0, 0)], [], [1]))
        self.tidy((1, [(1, 0), (1, 0), (0, 2)], [], [3, 2]), (1, [(1, 0), (0, 1)], [], [2, 1]))

    def test_gates_without_places(self):
        # 0 ahead of 1, behind the memories and ahead of the gates, one for each bit that is needed.
        circuit = (1, [(1, 4)], [(1, ()), (1, ()), (0, ()), (1, (0,)), (0, ()), (6, (0, 1))], [2, 5, 3, 4, 6, 1])
        self.tidy(circuit, (1, [(1, 2)], [(0, ()), (1, ()), (1, (0,))], [3, 4, 3, 2, 2, 1]))
        self.tidy((1, [], [(1, ()), (1, (0,))], [2]), (1, [], [(1, (0,))], [1]))
        self.tidy((1, [], [(1, ()), (1, (0,))], [1]), (1, [], [(1, ())], [1]))
        self.tidy((0, [], [(0, ()), (1, ())], [1, 0]), (0, [], [(0, ()), (1, ())], [1, 0]))
        self.tidy((0, [(1, 0)], [], [0]), (0, [], [(1, ())], [0]))

    def test_a_place_that_is_a_bit(self):
        self.tidy((2, [], [(1, ()), (8, (0, 2))], [3]), (2, [], [], [0]))
        self.tidy((2, [], [(1, ()), (6, (0, 2))], [3]), (2, [], [(1, (0,))], [2]))
        self.tidy((2, [], [(0, ()), (216, (0, 1, 2))], [3]), (2, [], [(8, (0, 1))], [2]))
        self.tidy((2, [(0, 2)], [(216, (2, 0, 1))], [3]), (2, [], [], [1]))
        self.tidy((2, [], [(0, ()), (8, (0, 2)), (14, (1, 3))], [4]), (2, [], [], [1]))

    def test_two_alike_places(self):
        self.tidy((2, [], [(8, (0, 0))], [2]), (2, [], [], [0]))
        self.tidy((2, [], [(9, (1, 1))], [2]), (2, [], [(1, ())], [2]))
        self.tidy((2, [], [(7, (1, 1))], [2]), (2, [], [(1, (1,))], [2]))
        self.tidy((2, [], [(150, (0, 1, 0))], [2]), (2, [], [], [1]))
        self.tidy((1, [(0, 0), (0, 0)], [(6, (1, 2))], [3]), (1, [], [(0, ())], [1]))

    def test_a_place_that_the_table_does_not_hang_on(self):
        self.tidy((2, [], [(12, (0, 1))], [2]), (2, [], [], [1]))
        self.tidy((2, [], [(5, (0, 1))], [2]), (2, [], [(1, (0,))], [2]))
        self.tidy((3, [], [(136, (0, 1, 2))], [3]), (3, [], [(8, (0, 1))], [3]))
        # What it left out is not needed.
        self.tidy((2, [(0, 3)], [(6, (0, 2)), (10, (1, 3))], [4]), (2, [], [], [1]))

    def test_a_not(self):
        self.tidy((2, [], [(1, (0,)), (8, (1, 2))], [3]), (2, [], [(4, (0, 1))], [2]))
        self.tidy((1, [], [(1, (0,)), (1, (1,))], [2]), (1, [], [], [0]))
        self.tidy((1, [], [(1, (0,)), (1, (1,)), (1, (2,))], [3]), (1, [], [(1, (0,))], [1]))
        self.tidy((1, [], [(1, (0,)), (6, (0, 1))], [2]), (1, [], [(1, ())], [1]))
        # The not itself stays where an out or a next needs it.
        self.tidy((2, [], [(1, (0,)), (8, (1, 2))], [3, 2]), (2, [], [(1, (0,)), (4, (0, 1))], [3, 2]))
        self.tidy((1, [(0, 2)], [(1, (0,))], [1]), (1, [(0, 2)], [(1, (0,))], [1]))

    def test_places_in_rising_order(self):
        self.tidy((2, [], [(4, (1, 0))], [2]), (2, [], [(2, (0, 1))], [2]))
        self.tidy((3, [], [(216, (2, 1, 0))], [3]), (3, [], [(202, (0, 1, 2))], [3]))

    def test_a_gate_that_is_a_lower_one_again(self):
        self.tidy((2, [], [(8, (0, 1)), (8, (1, 0)), (6, (2, 0)), (6, (3, 0))], [4, 5]),
                  (2, [], [(8, (0, 1)), (6, (0, 2))], [3, 3]))
        self.tidy((2, [], [(2, (0, 1)), (1, (1,)), (8, (0, 3))], [4, 2]), (2, [], [(2, (0, 1))], [2, 2]))
        self.tidy((2, [], [(8, (0, 1)), (14, (2, 2)), (6, (2, 3))], [4]), (2, [], [(0, ())], [2]))
        # Gate 4 doesn't hang on gate 2, and is left the same as it.
        self.tidy((2, [], [(8, (0, 1)), (136, (0, 1, 2))], [3, 2]), (2, [], [(8, (0, 1))], [2, 2]))
        self.tidy((2, [], [(8, (0, 1)), (192, (2, 0, 1))], [3]), (2, [], [(8, (0, 1))], [2]))

    def test_memories_by_the_widest_reading(self):
        twice = (1, [(0, 3), (0, 4)], [(6, (0, 1)), (6, (0, 2))], [1, 2])
        self.tidy(twice, (1, [(0, 2)], [(6, (0, 1))], [1, 1]))
        crossed = (1, [(0, 4), (0, 3)], [(6, (0, 1)), (6, (0, 2))], [2, 1])
        self.tidy(crossed, (1, [(0, 2)], [(6, (0, 1))], [1, 1]))
        self.tidy((1, [(0, 3), (0, 4)], [(8, (0, 2)), (8, (0, 1)), (14, (0, 1))], [5]), (1, [], [], [0]))
        self.tidy((0, [(0, 2), (1, 3)], [(1, (1,)), (1, (0,))], [1, 0]), (0, [], [(0, ()), (1, ())], [1, 0]))

    def test_every_table(self):
        # Over ins, a bit, two memories that are alike, and a not.
        memories = [(0, 1), (0, 1)]
        ahead = [(1, (0,)), (1, ()), (6, (0, 1))]
        chance = Random(31)
        for table in range(256):
            gates = [(table, tuple([chance.randrange(7) for k in range(3)])) for gate in range(4)]
            self.tidy((2, memories, ahead + gates, [7, 8, 9, 10]), model=table % 8 == 0)
        for table in range(16):
            for one in range(7):
                for other in range(7):
                    self.tidy((2, memories, ahead + [(table, (one, other))], [7]), model=False)

    def test_circuits_made_up(self):
        chance = Random(32)
        for k in range(400):
            self.tidy(small_circuit(chance, (3, 4, 12, 3)), model=k % 4 == 0)

    def test_gates_over_few_places(self):
        # Many gates are lower ones again, and bits, by ways through one another.
        chance = Random(33)
        for k in range(150):
            self.tidy(made_up_circuit(chance, 2, 1, 20, 4), model=k % 5 == 0)

    def test_nine_memories_and_twenty_gates(self):
        chance = Random(34)
        for k in range(60):
            self.tidy(made_up_circuit(chance, chance.randint(0, 3), 9, 20, 4), model=k % 10 == 0)

    def test_flat_circuits(self):
        for seed in range(40):
            circuit = flat(Maker(seed).program())
            new, paper = tidied(circuit)
            self.same_by_paper(circuit, new, paper, model=False)
            self.assertEqual(tidied(new)[0], new)
        sums = flat(read("part main in x 8 memory m 8 0 (plus m x) memory n 8 0 (plus x n) out y (xor m n) out z m end"))
        new = self.tidy(sums, model=False)
        self.assertEqual((len(new[1]), new[2][0], new[3][:8]), (8, (0, ()), [16] * 8))

    def test_long_rows_of_gates(self):
        nots = (1, [], [(1, (k,)) for k in range(3000)], [3000, 2999])
        self.tidy(nots, (1, [], [(1, (0,))], [0, 1]), model=False)
        unlike = (2, [], [(6, (0, 1))] + [(6, (k, k + 1)) for k in range(1, 1500)], [1501])
        new, paper = tidied(unlike)
        self.same_by_paper(unlike, new, paper, model=False)
        memories = (1, [(0, k) for k in range(60)], [(6, (1, 60))], [61])
        self.tidy(memories, memories, model=False)

    def test_a_spoilt_circuit_is_not_taken(self):
        chance = Random(35)
        many = 0
        for k in range(150):
            circuit = made_up_circuit(chance, 2, 2, 8, 2)
            new, paper = tidied(circuit)
            many += self.not_taken_spoilt(circuit, new, paper)
        self.assertGreater(many, 50)

    def test_own_lists(self):
        self.own_lists(tidied, (1, [(0, 3), (0, 4), (0, 1)], [(6, (0, 1)), (6, (0, 2)), (1, (1,)), (0, ())], [1, 5, 6]))
        self.own_lists(tidied, (0, [], [], []))

    def test_is_circuit(self):
        chance = Random(36)
        for k in range(50):
            self.assertIs(is_circuit(tidied(small_circuit(chance))[0]), True)
