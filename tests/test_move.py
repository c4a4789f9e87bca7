"""Memories moved over gates: moves, the least depth, and the ways that show that there is no lesser one."""

from itertools import product
from random import Random

from gatepapers.circuits import depth, is_circuit, run_bits
from gatepapers.errors import TooGreat
from gatepapers.move import moved, over, shows
from gatepapers.papers import looked
from tests.helper import (
    ODD_THINGS, Checks, PaperModel, chain, made_up_circuit, made_up_rows, ring, small_circuit, values_by_point,
)


def can_be_moved_over(circuit, gate):
    """Whether a gate can be moved over, by point 23."""
    ins, memories, gates, outs = circuit
    ahead = ins + len(memories)
    places = gates[gate - ahead][1]
    steady = [ahead + k for k, (table, below) in enumerate(gates) if not below]
    return len(places) > 0 and all([ins <= place < ahead or place in steady for place in places])


def gates_to_move(circuit):
    ahead = circuit[0] + len(circuit[1])
    return [gate for gate in range(ahead, ahead + len(circuit[2])) if can_be_moved_over(circuit, gate)]


# A second way: circuits as dicts of named things, whatever their numbers.

class Named:
    """A circuit whose ins, memories and gates have names that stay."""

    def __init__(self, circuit):
        ins, memories, gates, outs = circuit
        names = [("in", k) for k in range(ins)] + [("memory", k) for k in range(len(memories))]
        names += [("gate", k) for k in range(len(gates))]
        self.memories = {names[ins + k]: (begin, names[after]) for k, (begin, after) in enumerate(memories)}
        self.gates = {("gate", k): (table, tuple([names[place] for place in places]))
                      for k, (table, places) in enumerate(gates)}
        self.outs = [names[place] for place in outs]

    def copy(self):
        other = Named((0, [], [], []))
        other.memories, other.gates, other.outs = dict(self.memories), dict(self.gates), list(self.outs)
        return other

    def key(self):
        return (tuple(sorted(self.memories.items())), tuple(sorted(self.gates.items())), tuple(self.outs))

    def is_steady(self, name):
        return name in self.gates and not self.gates[name][1]

    def movable(self):
        return [gate for gate, (table, places) in sorted(self.gates.items())
                if places and all([name in self.memories or self.is_steady(name) for name in places])]

    def over(self, gate):
        """The circuit that a move over a gate leads to."""
        new = self.copy()
        table, places = new.gates.pop(gate)
        bits = [self.memories[name][0] if name in self.memories else self.gates[name][0] for name in places]
        begin = table >> sum([one << k for k, one in enumerate(bits)]) & 1
        nexts = [self.memories[name][1] if name in self.memories else name for name in places]
        fresh = ("new", gate, len([name for name in self.memories if name[:2] == ("new", gate)]))
        old = dict(new.gates)
        old[gate] = (table, tuple(nexts))

        def put(name):
            return fresh if name == gate else name

        new.gates = {name: (other, tuple([put(below) for below in lower])) for name, (other, lower) in old.items()}
        new.memories = {name: (one, put(after)) for name, (one, after) in new.memories.items()}
        new.memories[fresh] = (begin, gate)
        new.outs = [put(name) for name in new.outs]
        return new

    def depth(self):
        known = {}

        def deep(name):
            if name not in self.gates or self.is_steady(name):
                return 0
            if name not in known:
                known[name] = 1 + max([deep(below) for below in self.gates[name][1]])
            return known[name]

        return max([deep(name) for name in self.gates], default=0)


def least_by_search(circuit, most, bound=1500):
    """The least depth within so many moves, and how many lead to it; None where there are too many circuits."""
    first = Named(circuit)
    level = [first]
    found = (first.depth(), 0)
    many = 1
    for moves in range(1, most + 1):
        later = {}
        for one in level:
            for gate in one.movable():
                new = one.over(gate)
                later[new.key()] = new
        level = list(later.values())
        many += len(level)
        if many > bound:
            return None
        for one in level:
            if one.depth() < found[0]:
                found = (one.depth(), moves)
    return found


class Over(Checks):
    def check(self, circuit, gate, model=True):
        """That a move over a gate does all that point 23 tells, and nothing else."""
        ins, memories, gates, outs = circuit
        ahead = ins + len(memories)
        new, paper = over(circuit, gate)
        self.same_by_paper(circuit, new, paper, model)
        table, places = gates[gate - ahead]
        self.assertEqual((new[0], len(new[1]), len(new[2]), len(new[3])), (ins, len(memories) + 1, len(gates), len(outs)))
        # What is new can be told from what it was: by the places of all things in the order they are in.
        named = Named(circuit)
        wanted = named.over(("gate", gate - ahead))
        self.assertTrue(alike(wanted, Named(new)), (circuit, gate, new))
        begin = values_by_point(circuit, [one for one, after in memories], [0] * ins)[gate]
        self.assertEqual([one for one, after in new[1]].count(1), [one for one, after in memories].count(1) + begin)
        return new

    def test_a_memory_and_a_not(self):
        for begin in (0, 1):
            new = self.check((1, [(begin, 0)], [(1, (1,))], [2]), 2)
            self.assertEqual(depth(new), 1)
            self.assertEqual(sorted(new[1]), sorted([(begin, 0), (1 - begin, 3)]))
            self.assertEqual((new[2], new[3]), ([(1, (0,))], [2]))

    def test_every_table_and_begin(self):
        for many in (1, 2, 3):
            for table in range(2 ** 2 ** many) if many < 3 else range(0, 256, 7):
                for begins in product((0, 1), repeat=many):
                    circuit = (many, [(begin, k) for k, begin in enumerate(begins)], [(table, tuple(range(many, 2 * many)))],
                               [2 * many])
                    self.check(circuit, 2 * many, model=table % 5 == 0)

    def test_whatever_had_it_has_the_new_memory(self):
        # Gate 4 is an out twice, a memory's next, and among the places of gates, twice of one.
        circuit = (1, [(0, 0), (1, 4), (0, 5)], [(8, (1, 2)), (6, (4, 0)), (8, (4, 4)), (1, (5,))], [4, 7, 4, 6])
        new = self.check(circuit, 4)
        self.assertEqual(new[3][0], new[3][2])
        self.assertTrue(1 <= new[3][0] < 5)

    def test_a_memory_whose_next_is_the_gate_itself(self):
        for begin in (0, 1):
            new = self.check((0, [(begin, 1)], [(1, (0,))], [0, 1]), 1)
            # The new gate has the new memory among its places.
            self.assertEqual((new[1], new[2], new[3]), ([(begin, 1), (1 - begin, 2)], [(1, (1,))], [0, 1]))
        self.check((1, [(0, 3), (1, 3)], [(6, (1, 2))], [1, 3]), 3)
        self.check((1, [(0, 3), (1, 0)], [(6, (1, 2))], [2, 3]), 3)

    def test_gates_without_places_among_its_places(self):
        for bit in (0, 1):
            for table in range(16):
                self.check((1, [(1, 0)], [(bit, ()), (table, (1, 2))], [3]), 3)
                self.check((1, [(0, 0)], [(bit, ()), (table, (2, 1))], [3, 2]), 3)
                # Of these alone.
                self.check((1, [(0, 0)], [(bit, ()), (1, ()), (table, (2, 3))], [4]), 4)
                self.check((1, [], [(bit, ()), (table, (1, 1))], [2]), 2)

    def test_a_memory_whose_next_is_a_gate_without_places(self):
        for bit in (0, 1):
            self.check((1, [(0, 2), (1, 0)], [(bit, ()), (6, (1, 2)), (8, (1, 2))], [4, 5]), 4)

    def test_one_memory_twice(self):
        for table in range(16):
            for begin in (0, 1):
                self.check((1, [(begin, 0)], [(table, (1, 1))], [2]), 2)
        for table in range(0, 256, 5):
            self.check((2, [(1, 0), (0, 1)], [(table, (2, 3, 2))], [4]), 4)

    def test_memories_among_one_another(self):
        self.check((0, [(0, 1), (1, 0)], [(6, (0, 1))], [2]), 2)
        self.check((1, [(0, 2), (1, 0)], [(6, (1, 2)), (1, (1,))], [3, 4]), 3)
        self.check((0, [(0, 0)], [(1, (0,))], [1]), 1)

    def test_the_first_the_last_and_one_between(self):
        circuit = (1, [(0, 4), (1, 3), (0, 0)], [(1, (1,)), (6, (2, 3)), (1, (2,)), (8, (5, 0)), (14, (6, 7))], [8, 4])
        for gate in gates_to_move(circuit):
            self.check(circuit, gate)
        self.assertEqual(gates_to_move(circuit), [4, 5, 6])

    def test_circuits_made_up(self):
        chance = Random(41)
        many = 0
        for k in range(500):
            circuit = small_circuit(chance, (2, 4, 6, 3))
            for gate in gates_to_move(circuit):
                self.check(circuit, gate, model=k % 5 == 0)
                many += 1
        self.assertGreater(many, 300)

    def test_rows_of_moves(self):
        chance = Random(42)
        for k in range(60):
            circuit = made_up_circuit(chance, 1, 4, 5, 2)
            for turn in range(6):
                gates = gates_to_move(circuit)
                if gates:
                    circuit = self.check(circuit, chance.choice(gates), model=False)

    def test_own_lists(self):
        self.own_lists(over, (1, [(0, 0), (1, 4)], [(8, (1, 2)), (6, (3, 0))], [4, 3]), 3)


def alike(one, other):
    """Whether two named circuits are the same but for names: gates and memories found by going down from all that is."""
    if len(one.memories) != len(other.memories) or sorted([table for table, places in one.gates.values()]) != sorted(
            [table for table, places in other.gates.values()]):
        return False
    # Old memories come ahead in both, the new one last; gates are found by being asked for, else by their tables.
    pairs = list(zip(one.memories, other.memories)) + list(zip(one.outs, other.outs))
    known = {}
    left = list(pairs)
    while left:
        first, second = left.pop()
        if first in known:
            if known[first] != second:
                return False
            continue
        known[first] = second
        if first in one.memories:
            if second not in other.memories or one.memories[first][0] != other.memories[second][0]:
                return False
            left.append((one.memories[first][1], other.memories[second][1]))
        elif first in one.gates:
            if second not in other.gates:
                return False
            (table, places), (twin, lower) = one.gates[first], other.gates[second]
            if table != twin or len(places) != len(lower):
                return False
            left.extend(list(zip(places, lower)))
        elif first != second:
            return False
    return len(set(known.values())) == len(known)


class Moved(Checks):
    def check(self, circuit, least=None, moves=None, search=0, model=False):
        """That the moves told lead to a depth, each with a paper, and that the way shows that there is no lesser one."""
        links, way, marks = moved(circuit)
        ahead = circuit
        for new, paper in links:
            self.same_by_paper(ahead, new, paper, model)
            self.assertIs(one_move(ahead, new), True, (ahead, new))
            ahead = new
        found = depth(ahead)
        if least is not None:
            self.assertEqual((found, len(links)), (least, moves), circuit)
        if found <= 1:
            self.assertEqual((way, marks), ([], []))
        else:
            self.assertIs(shows(circuit, way, marks, found - 1), True, (circuit, way, marks))
            self.assertTrue(shows_by_point(circuit, way, marks, found - 1))
            self.assertIs(shows(circuit, way, marks, found), False)
        searched = least_by_search(circuit, len(links) + search)
        if searched is not None:
            self.assertEqual(searched, (found, len(links)), circuit)
        return searched is not None

    def test_nothing_to_move(self):
        self.check((0, [], [], []), 0, 0)
        self.check((2, [(0, 0), (1, 2)], [], [3]), 0, 0)
        self.check((2, [(0, 0), (1, 4)], [(1, ()), (0, ())], [4]), 0, 0)
        self.check((2, [(0, 0)], [(6, (0, 1))], [2]), 1, 0)
        self.check((0, [(0, 1)], [(1, (0,))], [0]), 1, 0)

    def test_no_memories(self):
        self.check((2, [], [(6, (0, 1)), (8, (0, 2)), (6, (3, 1))], [4]), 3, 0)
        self.check(chain(0, 5), 5, 0)
        # Gates without places can be moved over, though there are no memories.
        self.check((0, [], [(1, ()), (1, (0,)), (1, (1,)), (1, (2,))], [3]), 1, 3)

    def test_rows_of_gates(self):
        self.check(chain(1, 2), 1, 1, search=2)
        self.check(chain(1, 3), 2, 1, search=2)
        self.check(chain(1, 4), 2, 2, search=2)
        self.check(chain(2, 3), 1, 3, search=2)
        self.check(chain(2, 6), 2, 6, search=2)
        self.check(chain(3, 2), 1, 1, search=2)

    def test_one_gate_again_and_again(self):
        self.check(chain(5, 6), 1, 15)
        links, way, marks = moved(chain(5, 6))
        self.assertEqual(len(links[-1][0][1]), 20)
        self.check(chain(9, 10), 1, 45)
        self.check(chain(4, 10), 2, 20)

    def test_rings(self):
        self.check(ring(1, 3), 3, 0)
        self.check(ring(2, 4), 2, 2, search=3)
        self.check(ring(2, 5), 3, 2, search=3)
        self.check(ring(3, 3), 1, 3, search=3)
        self.check(ring(3, 4), 2, 2, search=3)
        self.check(ring(3, 7), 3, 5, search=2)
        self.check(ring(5, 40), 8, 80)

    def test_rings_that_share_gates(self):
        # Two rings over gate 3, of unlike length: the longer one binds.
        circuit = (0, [(0, 7), (0, 0), (1, 4)], [(6, (1, 2)), (1, (3,)), (1, (4,)), (1, (5,)), (1, (6,))], [1])
        self.check(circuit, search=3)
        gates = [(6, (2, 3)), (1, (4,)), (6, (5, 3)), (1, (6,)), (9, (7, 2)), (1, (8,))]
        self.check((0, [(0, 9), (1, 0), (0, 1), (1, 9)], gates, [4, 9]), search=2)

    def test_circuits_that_no_move_makes_less_deep(self):
        # The in goes through all gates.
        self.check((1, [(0, 4)], [(6, (0, 1)), (6, (2, 1)), (6, (3, 1))], [4]), 3, 0)
        self.check((1, [(0, 3)], [(6, (0, 1)), (6, (2, 1))], [3]), 2, 0)
        # A ring with one memory and all its gates.
        self.check((1, [(0, 4), (0, 0)], [(6, (1, 2)), (1, (3,))], [4]), 2, 0, search=3)

    def test_what_does_not_bind(self):
        # Through a memory to a gate without places, or round through memories alone: moves over it never end.
        self.check((0, [(0, 1)], [(1, ()), (1, (0,)), (1, (2,)), (1, (3,))], [4]), 1, 3)
        self.check((0, [(0, 1), (1, 0)], [(6, (0, 1)), (1, (2,)), (1, (3,)), (1, (4,))], [5]), 1, 6)
        self.check((1, [(0, 1)], [(6, (0, 1)), (1, (1,)), (1, (3,))], [2, 4]), 1, 1)

    def test_forty_gates_and_more(self):
        self.assertEqual([len(circuit[2]) for circuit in (chain(1, 40), chain(1, 41))], [40, 41])
        links, way, marks = moved(chain(1, 40))
        self.assertEqual((len(links), depth(links[-1][0])), (20, 20))
        self.refused(TooGreat, moved, chain(1, 41))
        # Gates without places are gates too.
        self.assertEqual(moved((0, [], [(0, ())] * 40, [])), ([], [], []))
        self.refused(TooGreat, moved, (0, [], [(0, ())] * 41, []))
        self.refused(TooGreat, moved, (1, [], [(1, (0,))] * 60, [3]))
        chance = Random(43)
        for k in range(6):
            self.check(made_up_circuit(chance, 2, 12, 40, 3))

    def test_circuits_made_up(self):
        chance = Random(44)
        searched = 0
        for k in range(500):
            searched += self.check(small_circuit(chance, (2, 5, 8, 2)), search=2, model=k % 20 == 0)
        self.assertGreater(searched, 400)

    def test_gates_of_few_places(self):
        # Nots and unlike bits over places close by: long ways, and moves that are worth something.
        chance = Random(45)
        counts = []
        for k in range(250):
            ins, memories, gates = chance.randint(0, 1), chance.randint(1, 6), chance.randint(2, 9)
            ahead = ins + memories
            laid = []
            for own in range(ahead, ahead + gates):
                near = [chance.randint(max(0, own - 4), own - 1) for place in range(chance.choice((1, 1, 2)))]
                laid.append((1 if len(near) == 1 else 6, tuple(near)))
            kept = [(chance.randrange(2), chance.randrange(ahead + gates)) for one in range(memories)]
            circuit = (ins, kept, laid, [ahead + gates - 1])
            self.check(circuit, search=2)
            counts.append(len(moved(circuit)[0]))
        self.assertGreater(len([many for many in counts if many]), 80)
        self.assertGreater(max(counts), 6)

    def test_papers_by_the_second_way(self):
        for circuit in (chain(2, 3), ring(2, 4), ring(3, 3)):
            ahead = circuit
            for new, paper in moved(circuit)[0]:
                self.assertTrue(PaperModel(ahead, new, paper).taken())
                ahead = new

    def test_a_paper_is_not_taken_for_a_circuit_that_begins_otherwise(self):
        ahead = chain(2, 3)
        for new, paper in moved(ahead)[0]:
            ins, memories, gates, outs = new
            for k, (begin, after) in enumerate(memories):
                other = (ins, memories[:k] + [(1 - begin, after)] + memories[k + 1:], gates, outs)
                self.assertIs(looked(ahead, other, paper), False)
            ahead = new

    def test_own_lists(self):
        self.own_lists(moved, chain(2, 3))
        self.own_lists(moved, ring(2, 4))
        self.own_lists(moved, chain(0, 2))


def one_move(circuit, new):
    """Whether a circuit is what a move over some gate of another one leads to."""
    named, wanted = Named(circuit), Named(new)
    return any([alike(named.over(gate), wanted) for gate in named.movable()])


def shows_by_point(circuit, way, marks, d):
    """Whether a way and marks of good form show that d can't be, by points 24 and 25."""
    ins, memories, gates, outs = circuit
    ahead = ins + len(memories)

    def back(thing):
        """The place to which a step leads, and the memories that it passes."""
        place = gates[thing[0] - ahead][1][thing[1]]
        passed = []
        while ins <= place < ahead:
            if place in passed:
                return None
            passed.append(place)
            place = memories[place - ins][1]
        return None if place >= ahead and gates[place - ahead][1] == () else (place, len(passed))

    steps = [back(thing) for thing in way]
    if None in steps or [place for place, passed in steps[1:]] != [gate for gate, k in way[:-1]]:
        return False
    opened = steps[0][0] < ins
    if not opened and steps[0][0] != way[-1][0]:
        return False
    if len(marks) < 2 or marks != sorted(set(marks)) or min(marks) < 0 or max(marks) >= len(way):
        return False
    if opened and (marks[0], marks[-1]) != (0, len(way) - 1):
        return False
    blocks = [way[mark:later + 1] for mark, later in zip(marks, marks[1:])]
    if not opened:
        blocks.append(way[marks[-1]:] + way[:marks[0] + 1])
    return min([len(block) for block in blocks]) > d and sum([passed for place, passed in steps]) < len(blocks)


# An in 0, a memory 1 (next 0), a steady gate 3, and gates 4 to 7 in a row; memory 2 leads to gate 3, and 8 and 9 hang
# on what binds nothing.
ROW = (1, [(0, 0), (0, 3), (0, 2)], [(1, ()), (6, (1, 4)), (6, (5, 0)), (6, (6, 4)), (6, (7, 3)), (6, (2, 3))], [8])
# Memories 0 and 1 behind one another, gates 2 to 6 in a ring; gate 6 hangs on gate 4, too.
ROUND = (0, [(0, 6), (0, 0)], [(1, (1,)), (1, (2,)), (1, (3,)), (1, (4,)), (6, (5, 4))], [0])
OPEN_WAY = [(5, 0), (6, 0), (7, 0), (8, 0)]
RING_WAY = [(2, 0), (3, 0), (4, 0), (5, 0), (6, 0)]


class Shows(Checks):
    def check(self, wanted, circuit, way, marks, d):
        self.assertTrue(is_circuit(circuit))
        self.assertIs(shows(circuit, way, marks, d), wanted, (way, marks, d))
        self.assertEqual(shows_by_point(circuit, way, marks, d), wanted)

    def no(self, circuit, way, marks, d):
        """That a thing of whatever form shows nothing."""
        self.assertIs(shows(circuit, way, marks, d), False, (way, marks, d))

    def test_open_ways(self):
        # One memory, that the first step passes.
        self.check(True, ROW, OPEN_WAY, [0, 1, 3], 1)
        self.check(True, ROW, OPEN_WAY, [0, 2, 3], 1)
        self.check(True, ROW, OPEN_WAY, [0, 1, 2, 3], 1)
        self.check(False, ROW, OPEN_WAY, [0, 1, 2, 3], 2)
        self.check(False, ROW, OPEN_WAY, [0, 1, 3], 2)
        # As many memories as blocks.
        self.check(False, ROW, OPEN_WAY, [0, 3], 1)
        self.check(False, ROW, OPEN_WAY, [0, 3], 0)
        # Without any memory one block is enough: from the in straight to gate 6.
        self.check(True, ROW, [(6, 1), (7, 0), (8, 0)], [0, 2], 2)
        self.check(False, ROW, [(6, 1), (7, 0), (8, 0)], [0, 2], 3)
        self.check(True, ROW, [(6, 1), (7, 0)], [0, 1], 1)

    def test_rings(self):
        self.check(False, ROUND, RING_WAY, [0, 2], 1)
        self.check(True, ROUND, RING_WAY, [0, 2, 3], 1)
        self.check(True, ROUND, RING_WAY, [0, 1, 2, 3, 4], 1)
        self.check(True, ROUND, RING_WAY, [1, 3, 4], 1)
        self.check(False, ROUND, RING_WAY, [0, 2, 4], 2)
        # From gate 4 straight to gate 6 is a shorter ring.
        self.check(True, ROUND, [(2, 0), (3, 0), (4, 0), (6, 1)], [0, 1, 2], 1)
        self.check(False, ROUND, [(2, 0), (3, 0), (4, 0), (6, 1)], [0, 2], 1)
        # Begun elsewhere, and gone twice: four memories, ten gates.
        turned = RING_WAY[3:] + RING_WAY[:3]
        self.check(True, ROUND, turned, [0, 2, 4], 1)
        self.check(True, ROUND, RING_WAY * 2, [0, 2, 4, 6, 8], 2)
        self.check(False, ROUND, RING_WAY * 2, [0, 2, 4, 6, 8], 3)
        self.check(False, ROUND, RING_WAY * 2, [0, 2, 4, 6], 2)
        # One gate that hangs on itself: no blocks of more than one, unless the ring is gone twice.
        itself = (0, [(0, 1)], [(1, (0,))], [0])
        self.check(False, itself, [(1, 0)], [0], 0)
        self.check(False, itself, [(1, 0)] * 2, [0, 1], 1)

    def test_each_d(self):
        for d in (-3, -1, 0, 1):
            self.check(True, ROW, OPEN_WAY, [0, 1, 3], d)
            self.check(True, ROUND, RING_WAY, [0, 2, 3], d)
        for d in (2, 3, 10, 10 ** 59):
            self.check(False, ROW, OPEN_WAY, [0, 1, 3], d)
            self.check(False, ROUND, RING_WAY, [0, 2, 3], d)
        self.assertIs(shows(ROW, OPEN_WAY, [0, 1, 3], -10 ** 59), True)

    def test_a_step_that_leads_elsewhere(self):
        self.check(False, ROW, [(5, 0), (6, 0), (8, 0)], [0, 1, 2], 1)
        self.check(False, ROW, [(5, 0), (6, 1), (7, 0), (8, 0)], [0, 1, 3], 1)
        self.check(False, ROW, [(5, 0), (7, 0), (6, 0), (8, 0)], [0, 1, 3], 1)
        self.check(False, ROW, [(6, 0), (7, 0), (8, 0)], [0, 1, 2], 1)
        self.check(False, ROW, [(7, 0), (8, 0)], [0, 1], 1)
        # Without memories the first gate stands straight behind the ins, but is none.
        self.check(True, chain(0, 4), [(1, 0), (2, 0), (3, 0)], [0, 2], 1)
        self.check(False, chain(0, 4), [(2, 0), (3, 0)], [0, 1], 1)
        self.check(False, ROUND, RING_WAY[1:], [0, 2, 3], 1)
        self.check(False, ROUND, RING_WAY[:-1], [0, 2, 3], 1)
        self.check(False, ROUND, RING_WAY[::-1], [0, 2, 3], 1)

    def test_a_step_to_a_gate_without_places(self):
        self.check(False, ROW, [(5, 1), (6, 0), (7, 0), (8, 0)], [0, 1, 2, 3], 1)
        self.check(False, ROW, [(7, 1), (8, 0)], [0, 1], 1)
        # Through memories, too: gate 9 hangs on memory 3, whose next is memory 2, and that one's the steady gate 4.
        through = (1, [(0, 4), (0, 1), (0, 2)], [(1, ()), (1, (3,)), (1, (5,))], [6])
        self.check(False, through, [(5, 0), (6, 0)], [0, 1], 1)

    def test_a_step_round_through_memories_alone(self):
        around = (1, [(0, 2), (0, 1), (0, 1)], [(1, (3,)), (1, (4,))], [5])
        self.check(False, around, [(4, 0), (5, 0)], [0, 1], 1)
        self.check(False, (0, [(0, 0)], [(1, (0,)), (1, (1,))], []), [(1, 0), (2, 0)], [0, 1], 1)

    def test_marks(self):
        for marks in ([0, 3, 1], [0, 0, 3], [0, 1, 1, 3], [3, 1, 0], [0, 2, 1, 3], [1, 3], [0, 1, 2], [1, 2, 3], [0], [3],
                      [0, 1, 3, 4], [-1, 1, 3], [0, 1, 3, 3]):
            self.check(False, ROW, OPEN_WAY, marks, 1)
        for marks in ([2, 0, 3], [0, 0, 2, 3], [0, 2, 5], [-1, 2, 3], [0], [0, 2, 2], [3, 2, 0]):
            self.check(False, ROUND, RING_WAY, marks, 1)
        self.no(ROW, OPEN_WAY, [], 1)
        self.no(ROW, [], [], 1)
        self.no(ROUND, [], [0, 1], -1)

    def test_of_anything(self):
        more = ["", "abc", 0, 1, -1, 10 ** 50, True, None, [None], [True, True], [(5, 0)], [[5, 0]], [(5, 0, 0)], [(5,)]]
        for thing in ODD_THINGS + more:
            for circuit, way, marks in ((ROW, OPEN_WAY, [0, 1, 3]), (ROUND, RING_WAY, [0, 2, 3])):
                self.no(circuit, thing, marks, 1)
                self.no(circuit, way, thing, 1)
                self.no(circuit, thing, thing, thing)
                if type(thing) is not int or thing > 1:
                    self.no(circuit, way, marks, thing)
                for k in range(len(way)):
                    if thing != way[k]:
                        self.no(circuit, way[:k] + [thing] + way[k + 1:], marks, 1)
                    if type(thing) is not int or thing != way[k][1]:
                        self.no(circuit, way[:k] + [(way[k][0], thing)] + way[k + 1:], marks, 1)
                    self.no(circuit, way[:k] + [(thing, way[k][1])] + way[k + 1:], marks, 1)
                for k in range(len(marks)):
                    if type(thing) is not int:
                        self.no(circuit, way, marks[:k] + [thing] + marks[k + 1:], 1)

    def test_lists_and_tuples_the_other_way_about(self):
        for circuit, way, marks in ((ROW, OPEN_WAY, [0, 1, 3]), (ROUND, RING_WAY, [0, 2, 3])):
            self.assertIs(shows(circuit, way, marks, 1), True)
            self.no(circuit, tuple(way), marks, 1)
            self.no(circuit, [list(thing) for thing in way], marks, 1)
            self.no(circuit, [thing + (0,) for thing in way], marks, 1)
            self.no(circuit, [thing[:1] for thing in way], marks, 1)
            self.no(circuit, [thing[0] for thing in way], marks, 1)
            self.no(circuit, dict(enumerate(way)), marks, 1)
            self.no(circuit, way, tuple(marks), 1)
            self.no(circuit, way, dict.fromkeys(marks), 1)
            self.no(circuit, way, [(mark,) for mark in marks], 1)
            self.no(circuit, way, [str(mark) for mark in marks], 1)
            self.no(circuit, way, [float(mark) for mark in marks], 1)
            self.no(circuit, way, marks, "1")
            self.no(circuit, way, marks, True)
            self.no(circuit, way, marks, False)
            self.no(circuit, way, marks, [1])

    def test_places_and_numbers_beyond(self):
        for bad in ((9 + 1, 0), (3, 0), (0, 0), (1, 0), (-4, 0), (5, 2), (5, -2), (5, 10 ** 40), (10 ** 40, 0), (4, 0)):
            self.no(ROW, [bad] + OPEN_WAY[1:], [0, 1, 3], 1)
        self.no(ROW, [(True, 0)] + OPEN_WAY, [0, 1, 3], 1)
        self.no(ROW, [(5, False)] + OPEN_WAY[1:], [0, 1, 3], 1)
        # Truths are no numbers of things.
        self.no(ROW, OPEN_WAY, [False, True, 3], 1)
        self.no(ROW, OPEN_WAY, [0, True, 3], 1)
        self.no((0, [], [], []), [(0, 0)], [0, 1], 0)

    def test_against_the_point(self):
        chance = Random(46)
        told = []
        for k in range(300):
            circuit = small_circuit(chance, (2, 3, 8, 1))
            way, marks = moved(circuit)[1:]
            for turn in range(12 if way else 0):
                other, spoilt, d = list(way), list(marks), chance.randint(0, 4)
                if chance.random() < 0.4:
                    at = chance.randrange(len(other))
                    gate = chance.choice([gate for gate, place in way])
                    many = len(circuit[2][gate - circuit[0] - len(circuit[1])][1])
                    other[at] = (gate, chance.randrange(many))
                if chance.random() < 0.4:
                    spoilt = sorted([chance.randrange(len(other)) for mark in range(chance.randint(2, 5))])
                if chance.random() < 0.2:
                    other, spoilt = other * 2, spoilt + [mark + len(other) for mark in spoilt]
                told.append(shows(circuit, other, spoilt, d))
                self.assertIs(told[-1], shows_by_point(circuit, other, spoilt, d), (circuit, other, spoilt, d))
        self.assertGreater(told.count(True), 200)
        self.assertGreater(told.count(False), 200)

    def test_no_moves_lead_to_what_is_shown_not_to_be(self):
        chance = Random(47)
        many = 0
        for k in range(200):
            circuit = small_circuit(chance, (2, 3, 6, 1))
            links, way, marks = moved(circuit)
            if way:
                last = links[-1][0] if links else circuit
                searched = least_by_search(circuit, 5, 400)
                if searched is not None:
                    self.assertGreaterEqual(searched[0], depth(last))
                    many += 1
        self.assertGreater(many, 40)

    def test_what_is_handed_in_stays(self):
        self.own_lists(shows, ROW, OPEN_WAY, [0, 1, 3], 1)
        self.own_lists(shows, ROUND, RING_WAY, [0, 2, 3], 1)
        self.own_lists(shows, ROUND, [[], {}], [None], "a")


class Rows(Checks):
    def test_moved_circuits_tell_the_same(self):
        chance = Random(48)
        for k in range(60):
            circuit = small_circuit(chance, (2, 5, 9, 2))
            links, way, marks = moved(circuit)
            if links:
                rows = made_up_rows(chance, circuit[0], 60)
                self.assertEqual(run_bits(circuit, rows), run_bits(links[-1][0], rows))
