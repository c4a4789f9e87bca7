"""Circuits of the fewest states: sorts, ways, partings, the circuit and its paper."""

from itertools import product
from random import Random

from gatepapers.circuits import depth, is_circuit, run_bits
from gatepapers.errors import TooGreat
from gatepapers.few import fewest
from gatepapers.flat import flat
from gatepapers.judge import pairs, parted
from gatepapers.reading import read
from tests.helper import Checks, lists_of_bits, made_up_circuit, made_up_rows, run_by_point, small_circuit, turn_by_point


def from_state(circuit, state):
    """The circuit that begins with a state."""
    ins, memories, gates, outs = circuit
    return (ins, [(bit, after) for bit, (begin, after) in zip(state, memories)], gates, outs)


class Model:
    """The states come to and their sorts, by point 27."""

    def __init__(self, circuit):
        self.circuit = circuit
        self.lists = lists_of_bits(circuit[0])
        # The shortest, then least, row to each state, found level by level in the order of rows.
        first = tuple([begin for begin, after in circuit[1]])
        self.rows = {first: []}
        level = [first]
        while level:
            later = []
            for state in level:
                for ins in self.lists:
                    after = tuple(turn_by_point(circuit, state, ins)[1])
                    if after not in self.rows:
                        self.rows[after] = self.rows[state] + [ins]
                        later.append(after)
            level = later
        self.turns = {state: [turn_by_point(circuit, state, ins) for ins in self.lists] for state in self.rows}
        self.lengths = self.parting_lengths()
        self.sorts = []
        for state in sorted(self.rows, key=lambda state: (len(self.rows[state]), self.rows[state])):
            alike = [sort for sort in self.sorts if (sort[0], state) not in self.lengths]
            if alike:
                alike[0].append(state)
            else:
                self.sorts.append([state])

    def parting_lengths(self):
        """For each two states that do not do alike, how many turns part them."""
        found = {}
        changed = True
        length = 1
        while changed:
            news = {}
            for one, other in product(self.rows, repeat=2):
                if (one, other) not in found:
                    for (outs, after), (others, later) in zip(self.turns[one], self.turns[other]):
                        if outs != others or (tuple(after), tuple(later)) in found:
                            news[(one, other)] = length
            changed = bool(news)
            found.update(news)
            length += 1
        return found

    def parting(self, one, other):
        """The shortest, then least, row of ins at whose last turn two states' outs are unlike."""
        if self.lengths[(one, other)] == 1:
            return [[ins for ins, (outs, after), (others, later) in zip(self.lists, self.turns[one], self.turns[other])
                     if outs != others][0]]
        rows = []
        for ins, (outs, after), (others, later) in zip(self.lists, self.turns[one], self.turns[other]):
            if self.lengths.get((tuple(after), tuple(later))) == self.lengths[(one, other)] - 1:
                rows.append([ins] + self.parting(tuple(after), tuple(later)))
        return min(rows)

    def sort_of(self, state):
        return [k for k, sort in enumerate(self.sorts) if tuple(state) in sort][0]


def all_rows(ins, most):
    """All rows of ins of at most so many turns, the shortest ahead, then the least."""
    lists = lists_of_bits(ins)
    return [list(row) for length in range(most + 1) for row in product(lists, repeat=length)]


class Fewest(Checks):
    def check(self, circuit, sorts=None, model=False):
        """That all that is told is as point 27 says."""
        new, paper, ways, partings = fewest(circuit)
        known = Model(circuit)
        if sorts is not None:
            self.assertEqual(len(ways), sorts, circuit)
        self.assertEqual(ways, [known.rows[sort[0]] for sort in known.sorts], circuit)
        wanted = [(i, j, known.parting(known.sorts[i][0], known.sorts[j][0]))
                  for i in range(len(ways)) for j in range(i + 1, len(ways))]
        self.assertEqual(partings, wanted, circuit)
        self.same_by_paper(circuit, new, paper, model)
        self.assertEqual(len(new[1]), len(format(len(ways) - 1, "b")) if len(ways) > 1 else 0)
        self.states_agree(circuit, new, known)
        self.shown(circuit, ways, partings)
        return new

    def states_agree(self, circuit, new, known):
        """That at each turn the new memories have the number of the sort of the old ones, lowest first."""
        chance = Random(len(circuit[2]))
        for turn in range(3):
            state = [begin for begin, after in circuit[1]]
            number = [begin for begin, after in new[1]]
            for ins in made_up_rows(chance, circuit[0], 20):
                sort = known.sort_of(state)
                self.assertEqual(number, [sort >> k & 1 for k in range(len(new[1]))], circuit)
                state = turn_by_point(circuit, state, ins)[1]
                number = turn_by_point(new, number, ins)[1]

    def shown(self, circuit, ways, partings):
        """That the rows told lead to states that they part: so none of them is too many."""
        for i, j, row in partings:
            self.assertLess(i, j)
            one, other = [run_by_point(circuit, ways[sort] + row)[len(ways[sort]):] for sort in (i, j)]
            self.assertEqual(one[:-1], other[:-1])
            self.assertNotEqual(one[-1], other[-1])

    def test_no_memories(self):
        self.check((2, [], [(6, (0, 1))], [2]), 1)
        self.check((0, [], [], []), 1)
        self.check((3, [], [(150, (0, 1, 2))], [3, 0]), 1)
        new = fewest((2, [], [(6, (0, 1))], [2]))[0]
        self.assertEqual((new[0], new[1], len(new[3])), (2, [], 1))
        self.assertEqual(fewest((0, [], [(1, ())], [0]))[2:], ([[]], []))

    def test_no_outs(self):
        new = self.check((1, [(0, 2), (1, 0)], [(6, (0, 1))], []), 1)
        self.assertEqual((new[1], new[3]), ([], []))

    def test_no_ins(self):
        # A count of four, of which the out tells the higher bit.
        circuit = (0, [(0, 2), (0, 3)], [(1, (0,)), (6, (0, 1))], [1])
        self.check(circuit, 4)
        ways, partings = fewest(circuit)[2:]
        self.assertEqual(ways, [[], [[]], [[], []], [[], [], []]])
        self.assertEqual(partings, [(0, 1, [[], []]), (0, 2, [[]]), (0, 3, [[]]), (1, 2, [[]]), (1, 3, [[]]), (2, 3, [[], []])])
        self.check((0, [(0, 0)], [], [0]), 1)
        self.check((0, [(0, 1)], [(1, (0,))], [0]), 2)

    def test_one_memory(self):
        circuit = (1, [(0, 2)], [(6, (0, 1))], [1])
        self.check(circuit, 2, model=True)
        self.assertEqual(fewest(circuit)[2:], ([[], [[1]]], [(0, 1, [[0]])]))
        self.check((1, [(1, 2)], [(6, (0, 1))], [1]), 2)
        # A memory that no out hangs on, and one that is always the same.
        self.check((1, [(1, 2)], [(6, (0, 1))], [0]), 1)
        self.check((1, [(0, 2)], [(8, (0, 1))], [1]), 1)

    def test_states_that_do_alike(self):
        # Three memories that keep the last three bits, of which the out tells whether two are alike, the last unlike.
        circuit = (1, [(0, 0), (0, 1), (0, 2)], [(6, (1, 2))], [4])
        self.check(circuit, 4)
        # The first 1 that came in stays, whatever comes later: kept in two ways.
        kept = (1, [(0, 3), (0, 4)], [(14, (0, 1)), (14, (0, 2)), (8, (1, 2))], [5])
        self.assertEqual(self.check(kept, 2)[1][0][0], 0)

    def test_sorts_are_numbered_by_their_least_rows(self):
        # Two ins: the state is the last pair of bits, told in the order 00, 01, 10, 11 as rows rise.
        circuit = (2, [(0, 0), (0, 1)], [], [2, 3])
        self.check(circuit, 4)
        self.assertEqual(fewest(circuit)[2], [[], [[0, 1]], [[1, 0]], [[1, 1]]])
        other = (2, [(1, 0), (0, 1)], [], [2, 3])
        self.check(other, 4)
        self.assertEqual(fewest(other)[2], [[], [[0, 0]], [[0, 1]], [[1, 1]]])

    def test_partings_are_the_shortest_then_least(self):
        # Eight turns go round; the out tells the last of them alone, unless a 1 comes in.
        circuit = (1, [(0, 4), (0, 5), (0, 7)], [(1, (1,)), (6, (1, 2)), (8, (1, 2)), (6, (3, 6)), (8, (3, 6)), (216, (0, 2, 8))],
                   [9])
        self.check(circuit)
        told = fewest(circuit)[3]
        self.assertGreater(max([len(row) for i, j, row in told]), 1)
        for i, j, row in told:
            for ins in row:
                self.assertEqual(len(ins), 1)

    def test_against_rows_one_by_one(self):
        chance = Random(51)
        many = 0
        for k in range(60):
            circuit = made_up_circuit(chance, 1, chance.randint(1, 3), chance.randint(1, 6), 1)
            ways, partings = fewest(circuit)[2:]
            rows = all_rows(1, 5)
            for i, j, row in partings:
                one, other = [from_state(circuit, self.state_behind(circuit, ways[sort])) for sort in (i, j)]
                found = [row for row in rows if run_by_point(one, row) != run_by_point(other, row)]
                if len(row) <= 5:
                    self.assertEqual(found[0], row)
                    many += 1
            for sort, way in enumerate(ways):
                # No row ahead of it leads to a state that does alike.
                begun = from_state(circuit, self.state_behind(circuit, way))
                for row in rows:
                    if (len(row), row) < (len(way), way):
                        self.assertIsNotNone(parted(begun, from_state(circuit, self.state_behind(circuit, row))))
        self.assertGreater(many, 40)

    def state_behind(self, circuit, row):
        state = [begin for begin, after in circuit[1]]
        for ins in row:
            state = turn_by_point(circuit, state, ins)[1]
        return state

    def test_partings_and_the_judge(self):
        chance = Random(52)
        for k in range(60):
            circuit = small_circuit(chance, (3, 4, 8, 2))
            ways, partings = fewest(circuit)[2:]
            for i, j, row in partings:
                one, other = [from_state(circuit, self.state_behind(circuit, ways[sort])) for sort in (i, j)]
                self.assertEqual(parted(one, other), row)

    def test_no_circuit_comes_to_fewer_states(self):
        chance = Random(53)
        for k in range(60):
            circuit = small_circuit(chance, (2, 4, 8, 2))
            new, paper, ways, partings = fewest(circuit)
            self.assertIsNone(parted(circuit, new))
            self.assertEqual(len(set([tuple(other) for one, other in pairs(circuit, new)])), len(ways))
            again, itself, others, rows = fewest(new)
            self.assertEqual((others, rows), (ways, partings))

    def test_circuits_made_up(self):
        chance = Random(54)
        sizes = []
        for k in range(250):
            circuit = small_circuit(chance, (3, 5, 10, 3))
            sizes.append(len(self.check(circuit, model=k % 25 == 0 and circuit[0] + len(circuit[1]) < 6)[1]))
        self.assertEqual(sorted(set(sizes))[:5], [0, 1, 2, 3, 4])

    def test_three_ins_and_five_memories(self):
        chance = Random(55)
        for k in range(25):
            self.check(made_up_circuit(chance, 3, 5, 12, 3))
        # All 32 states are come to, and all are told apart.
        full = (3, [(0, 0), (1, 1), (0, 2), (1, 3), (0, 4)], [], [3, 4, 5, 6, 7])
        self.assertEqual(len(self.check(full, 32)[1]), 5)
        # And round a count of 32, without any ins.
        gates = [(1, (0,)), (6, (0, 1)), (8, (0, 1)), (6, (2, 7)), (8, (2, 7)), (6, (3, 9)), (8, (3, 9)), (6, (4, 11))]
        count = (0, [(0, 5), (0, 6), (0, 8), (0, 10), (0, 12)], gates, [4])
        self.check(count, 32)
        self.assertEqual(len(fewest(count)[2][-1]), 31)

    def test_too_many_ins_or_memories(self):
        self.refused(TooGreat, fewest, (4, [], [], [0]))
        self.refused(TooGreat, fewest, (0, [(0, 0)] * 6, [], [0]))
        self.refused(TooGreat, fewest, (4, [(0, 0)] * 6, [], []))
        self.refused(TooGreat, fewest, (20, [(0, 0)], [(8, (0, 1))], [1]))
        self.refused(TooGreat, fewest, (1, [(0, 0)] * 100, [], [1]))
        self.assertEqual(len(fewest((3, [(0, 3)] * 5, [], [0]))[2]), 1)

    def test_many_outs_and_gates(self):
        chance = Random(56)
        circuit = made_up_circuit(chance, 3, 5, 400, 60)
        new, paper, ways, partings = fewest(circuit)
        self.same_by_paper(circuit, new, paper, model=False)

    def test_flat_circuits(self):
        for text, sorts in (
            ("part main in x 1 rooms q a b c d e go q a b x go q b c x go q c d x go q d e x out y (at q e) end", 5),
            ("part main in x 1 rooms q a b c d go q a b x go q b a x go q c d x go q d c x out y (at q b) end", 2),
            ("part main in x 2 memory m 3 0 (plus m (number 3 2)) out y (cut m 0 2) end", 2),
            ("part main in x 2 memory m 4 5 (plus (join x (number 2 0)) m) out y (less m (number 4 8)) end", 16),
        ):
            self.check(flat(read(text)), sorts)

    def test_a_paper_is_not_taken_for_what_tells_otherwise(self):
        chance = Random(57)
        many = 0
        for k in range(60):
            circuit = made_up_circuit(chance, 2, 3, 8, 2)
            new, paper, ways, partings = fewest(circuit)
            many += self.not_taken_spoilt(circuit, new, paper)
        self.assertGreater(many, 50)

    def test_is_circuit(self):
        chance = Random(58)
        for k in range(50):
            circuit = small_circuit(chance)
            new = fewest(circuit)[0]
            self.assertIs(is_circuit(new), True)
            self.assertLessEqual(depth(new), 8)
            rows = made_up_rows(chance, circuit[0], 50)
            self.assertEqual(run_bits(circuit, rows), run_bits(new, rows))

    def test_own_lists(self):
        self.own_lists(fewest, (2, [(0, 0), (0, 4), (1, 2)], [(6, (1, 2)), (8, (3, 4))], [2, 5, 3]))
        self.own_lists(fewest, (0, [(0, 2), (0, 3)], [(1, (0,)), (6, (0, 1))], [1]))
        self.own_lists(fewest, (0, [], [], []))
