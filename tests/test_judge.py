"""Circuits told apart: the row of ins that parts two, or the pairs of states that no turn leaves."""

from itertools import product
from random import Random

from gatepapers.circuits import is_circuit, run_bits
from gatepapers.errors import TooGreat, Unlike
from gatepapers.flat import flat
from gatepapers.judge import pairs, parted
from gatepapers.reading import read
from tests.helper import Checks, lists_of_bits, made_up_circuit, run_by_point, turn_by_point

WIRE = (1, [], [], [0])
LATER = (1, [(0, 0)], [], [1])


def first_parting(one, other, most):
    """The first of all rows of at most so many turns, the shortest and of these the least, that parts two circuits."""
    for many in range(1, most + 1):
        for row in product(lists_of_bits(one[0]), repeat=many):
            if run_by_point(one, row) != run_by_point(other, row):
                return [list(bits) for bits in row]
    return None


def pairs_found(one, other):
    """The pairs come to, by the points' words, where no row parts the circuits."""
    found = [([begin for begin, after in one[1]], [begin for begin, after in other[1]])]
    for state, twin in found:
        for bits in lists_of_bits(one[0]):
            pair = (turn_by_point(one, state, bits)[1], turn_by_point(other, twin, bits)[1])
            if pair not in found:
                found.append(pair)
    return found


def counter(many):
    """A circuit without ins and outs that counts from 0 to below so many, and then again."""
    name = f"(number 8 {many - 1})"
    return flat(read(f"part main memory m 8 0 (if (same m {name}) (number 8 0) (plus m (number 8 1))) end"))


def clock(ins, at, table, places):
    """A circuit of nine memories that counts its turns, with one out: a table over whether it is at a turn, and ins."""
    gates, memories, carry = [], [], None
    below = ins + 9

    def lay(table, places):
        gates.append((table, tuple(places)))
        return below + len(gates) - 1

    for k in range(9):
        memories.append((0, lay(1, [ins + k]) if carry is None else lay(6, [ins + k, carry])))
        carry = ins + k if carry is None else lay(8, [carry, ins + k])
    match = None
    for k in range(9):
        bit = ins + k if at >> k & 1 else lay(1, [ins + k])
        match = bit if match is None else lay(8, [match, bit])
    out = lay(table, [match] + list(places))
    return (ins, memories, gates, [out])


def still(ins):
    """A circuit without memories, whose one out is always 0."""
    return (ins, [], [(0, ())], [ins])


class Told(Checks):
    def both(self, one, other, row, found):
        self.assertEqual(parted(one, other), row)
        self.assertEqual(pairs(one, other), found)

    def test_at_the_first_turn(self):
        self.both(WIRE, (1, [], [(1, (0,))], [1]), [[0]], None)
        self.both(WIRE, (1, [], [(0, ())], [1]), [[1]], None)
        self.both(WIRE, LATER, [[1]], None)
        self.both((0, [(0, 0)], [], [0]), (0, [(1, 0)], [], [0]), [[]], None)

    def test_at_a_later_turn(self):
        twice = (1, [(0, 0), (0, 1)], [], [2])
        self.both(LATER, twice, [[1], [0]], None)
        self.both(LATER, (1, [(0, 2)], [(1, (0,))], [1]), [[0], [0]], None)
        thrice = (1, [(0, 0), (0, 1), (0, 2)], [], [3])
        self.both(twice, thrice, [[1], [0], [0]], None)
        self.both((0, [(0, 1)], [(1, (0,))], [0]), (0, [(0, 1), (1, 1)], [], [0]), [[], [], []], None)

    def test_by_the_last_of_several_bits(self):
        other = (3, [], [(0, ())], [3])
        self.both((3, [], [(8, (0, 1)), (8, (2, 3))], [4]), other, [[1, 1, 1]], None)
        self.both((3, [], [(8, (0, 1)), (2, (3, 2))], [4]), other, [[1, 1, 0]], None)
        self.both((3, [], [(8, (0, 1)), (2, (2, 3))], [4]), other, [[0, 0, 1]], None)

    def test_rising_as_lists(self):
        # Both [0, 1] and [1, 0] part these: the first in is the one that counts first.
        self.both((2, [], [(6, (0, 1))], [2]), (2, [], [(0, ())], [2]), [[0, 1]], None)
        self.both((2, [(0, 0)], [(6, (2, 1))], [3]), (2, [(0, 1)], [(6, (2, 0))], [3]), [[0, 1]], None)

    def test_by_the_last_of_several_outs(self):
        self.both((1, [], [(0, ())], [0, 0, 1]), (1, [], [(1, ())], [0, 0, 1]), [[0]], None)

    def test_not_parted(self):
        self.both(WIRE, WIRE, None, [([], [])])
        self.both(WIRE, (1, [], [(1, (0,)), (1, (1,))], [2]), None, [([], [])])
        self.both(LATER, (1, [(1, 2)], [(1, (0,)), (1, (1,))], [3]), None, [([0], [1]), ([1], [0])])
        toggle = (1, [(0, 2)], [(6, (0, 1))], [1])
        other = (1, [(1, 2)], [(6, (0, 1)), (1, (1,))], [3])
        self.both(toggle, other, None, [([0], [1]), ([1], [0])])

    def test_order_of_pairs(self):
        one = (2, [(0, 0), (0, 1)], [], [])
        other = (2, [(1, 1)], [], [])
        self.both(one, other, None, [
            ([0, 0], [1]), ([0, 0], [0]), ([0, 1], [1]), ([1, 0], [0]), ([1, 1], [1])])

    def test_no_ins(self):
        one = (0, [(0, 1), (1, 0)], [], [0])
        other = (0, [(0, 1)], [(1, (0,))], [0])
        self.both(one, other, None, [([0, 1], [0]), ([1, 0], [1])])
        self.both((0, [], [], []), (0, [], [], []), None, [([], [])])
        self.both((0, [], [(1, ())], [0]), (0, [], [(0, ())], [0]), [[]], None)

    def test_no_outs_are_never_unlike(self):
        self.both((1, [], [], []), (1, [(0, 0)], [], []), None, [([], [0]), ([], [1])])

    def test_states_that_are_not_come_to_part_nothing(self):
        self.both((1, [(0, 1)], [], [1]), still(1), None, [([0], [])])
        self.both((1, [(1, 1)], [], [1]), still(1), [[0]], None)


class MadeUp(Checks):
    def agrees(self, one, other, most):
        row = parted(one, other)
        self.assertEqual(row, first_parting(one, other, most), (one, other))
        found = pairs(one, other)
        if row is not None:
            self.assertIsNone(found)
            self.assertNotEqual(run_bits(one, row), run_bits(other, row))
            self.assertEqual(run_bits(one, row[:-1]), run_bits(other, row[:-1]))
            return len(row)
        self.assertEqual(found, pairs_found(one, other))
        for state, twin in found:
            for bits in lists_of_bits(one[0]):
                (outs, after), (others, later) = turn_by_point(one, state, bits), turn_by_point(other, twin, bits)
                self.assertEqual(outs, others)
                self.assertIn((after, later), found)
        return 0

    def test_against_a_search_through_all_rows(self):
        chance = Random(11)
        lengths = []
        for k in range(400):
            ins, outs = chance.randint(0, 2), chance.randint(0, 2)
            # A row that parts is at most as long as there are pairs of states, so few memories keep the search short.
            memories = chance.choice(((0, 0), (1, 0), (0, 1), (1, 1)) + (((2, 1), (1, 2)) if ins < 2 else ()))
            one, other = [made_up_circuit(chance, ins, many, chance.randint(1, 6), outs) for many in memories]
            lengths.append(self.agrees(one, other, 2 ** sum(memories)))
        for length in (0, 1, 2):
            self.assertGreater(lengths.count(length), 2, length)

    def test_circuits_with_one_thing_changed(self):
        chance = Random(12)
        lengths = []
        for k in range(300):
            one = made_up_circuit(chance, 1, 2, 7, 1)
            gates = list(one[2])
            at = chance.randrange(len(gates))
            gates[at] = (gates[at][0] ^ 1 << chance.randrange(2 ** len(gates[at][1])), gates[at][1])
            lengths.append(self.agrees(one, (1, one[1], gates, one[3]), 6))
        for length in (0, 1, 2, 3):
            self.assertGreater(lengths.count(length), 2, length)


class Refused(Checks):
    def both(self, error, one, other):
        self.refused(error, parted, one, other)
        self.refused(error, pairs, one, other)

    def test_not_as_many_ins_or_outs(self):
        self.both(Unlike, WIRE, (2, [], [], [0]))
        self.both(Unlike, WIRE, (1, [], [], [0, 0]))
        self.both(Unlike, WIRE, (1, [], [], []))
        self.both(Unlike, (0, [], [], []), (1, [], [], []))

    def test_unlike_ahead_of_too_great(self):
        self.both(Unlike, (7, [], [], [0]), (8, [], [], [0]))
        self.both(Unlike, (7, [], [], [0]), (6, [], [], [0]))
        self.both(Unlike, (7, [], [], [0]), (7, [], [], [0, 1]))
        self.both(Unlike, (6, [], [], [0]), (7, [], [], [0]))

    def test_seven_ins(self):
        for ins in (7, 8, 20, 400):
            self.both(TooGreat, (ins, [], [], [0]), (ins, [], [], [0]))
            self.both(TooGreat, (ins, [], [], [0]), (ins, [], [], [1]))
        self.assertIsNone(parted((6, [], [], [0]), (6, [], [], [0])))
        self.assertEqual(pairs((6, [], [], [0]), (6, [], [], [0])), [([], [])])
        self.assertEqual(parted((6, [], [], [5]), (6, [], [], [0])), [[0, 0, 0, 0, 0, 1]])

    def test_three_hundred_pairs(self):
        for one, other in ((12, 25), (25, 12), (4, 75), (13, 23)):
            found = pairs(counter(one), counter(other))
            self.assertEqual(len(found), one * other)
            self.assertIsNone(parted(counter(one), counter(other)))

    def test_the_301st_pair(self):
        for one, other in ((7, 43), (43, 7), (16, 19), (17, 18)):
            self.both(TooGreat, counter(one), counter(other))

    def test_a_row_that_parts_ahead_of_the_301st_pair(self):
        for at in (0, 3, 298, 299):
            one = clock(0, at, 2, [])
            self.assertIs(is_circuit(one), True)
            self.assertEqual(parted(one, still(0)), [[]] * (at + 1))
            self.assertIsNone(pairs(one, still(0)))
        for at in (300, 301, 511):
            self.both(TooGreat, clock(0, at, 2, []), still(0))

    def test_as_soon_as_it_is_found(self):
        # At the turn 299 the in 0 finds the 301st pair, ahead of the in 1.
        self.both(TooGreat, clock(1, 299, 8, [0]), still(1))
        self.assertEqual(parted(clock(1, 299, 2, [0]), still(1)), [[0]] * 300)
        self.assertIsNone(pairs(clock(1, 299, 2, [0]), still(1)))
        self.assertEqual(parted(clock(1, 298, 8, [0]), still(1)), [[0]] * 298 + [[1]])


class OwnLists(Checks):
    def test_own_lists(self):
        twice = (1, [(0, 0), (0, 1)], [], [2])
        thrice = (1, [(0, 0), (0, 1), (0, 2)], [], [3])
        self.own_lists(parted, twice, thrice)
        self.own_lists(pairs, twice, thrice)
        self.own_lists(parted, twice, twice)
        self.own_lists(pairs, twice, twice)
        self.own_lists(pairs, (0, [], [], []), (0, [], [], []))

    def test_one_circuit_handed_in_twice(self):
        circuit = (1, [(0, 0), (1, 1)], [], [2])
        found = pairs(circuit, circuit)
        found[0][0].append("more")
        self.assertEqual(found[0], ([0, 1, "more"], [0, 1]))
        self.assertEqual(pairs(circuit, circuit)[0], ([0, 1], [0, 1]))

    def test_kinds(self):
        found = pairs(LATER, LATER)
        self.assertEqual([type(found), type(found[0]), type(found[0][0])], [list, tuple, list])
        row = parted(LATER, WIRE)
        self.assertEqual([type(row), type(row[0]), type(row[0][0])], [list, list, int])
