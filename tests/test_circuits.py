"""Circuits: their form, their values and turns, their depth."""

from random import Random

from gatepapers.circuits import depth, first_of, is_circuit, run_bits, step, values
from tests.helper import (
    ODD_THINGS, Checks, lists_of_bits, made_up_circuit, run_by_point, turn_by_point, values_by_point,
)

# All shapes that matter: without ins, memories, gates, outs; gates of none to three places, one named twice in a gate.
CIRCUITS = [
    (0, [], [], []),
    (3, [], [], []),
    (2, [], [], [1, 0, 1]),
    (0, [(0, 0)], [], [0]),
    (0, [(1, 1), (0, 0)], [], []),
    (0, [], [(1, ())], [0]),
    (0, [], [(0, ()), (1, ()), (2, (0,))], [2, 0]),
    (1, [], [(3, (0,)), (1, (1,))], [2]),
    (2, [(0, 4), (1, 3)], [(8, (0, 2)), (6, (1, 4)), (216, (0, 5, 3)), (0, ()), (255, (4, 4, 4))], [8, 0, 3, 4]),
    (1, [(1, 5), (0, 0), (1, 2)], [(15, (0, 0)), (254, (3, 1, 3)), (9, (5, 0))], [6]),
    (2, [(0, 2)], [(14, (1, 2)), (150, (0, 1, 2))], []),
]
NO_NUMBERS = [True, False, None, "0", "", -1, -5, 0.0, 1.0, [], [0], (), (0,), {}]


def put(thing, k, new):
    """A list or a tuple with one thing exchanged."""
    things = list(thing)
    things[k] = new
    return tuple(things) if isinstance(thing, tuple) else things


def turned(thing):
    """A list as a tuple, a tuple as a list."""
    return list(thing) if isinstance(thing, tuple) else tuple(thing)


def other_lengths(thing):
    """A tuple with one thing too few, one too many, and none."""
    return [thing[:-1], thing[1:], thing + (0,), (0,) + thing, thing + thing, ()]


def spoilt_gates(gate, own):
    table, places = gate
    spoilt = [turned(gate), None, 0, "ab", {0: table, 1: places}] + other_lengths(gate)
    spoilt += [(table, turned(places)), (table, None), (table, 0), (table, "")]
    spoilt += [(bad, places) for bad in NO_NUMBERS + [2 ** 2 ** len(places), 2 ** 2 ** len(places) + 1, 10 ** 50]]
    spoilt += [(table, put(places, k, bad)) for k in range(len(places))
               for bad in NO_NUMBERS + [own, own + 1, 10 ** 50]]
    if own:
        spoilt += [(table, (0,) * 4), (0, (0,) * 4), (0, (0,) * 5)]
    return spoilt


def spoilt_circuits(circuit):
    """The circuit with one thing spoilt, each in turn."""
    ins, memories, gates, outs = circuit
    many = ins + len(memories) + len(gates)
    no_places = NO_NUMBERS + [many, many + 1, 10 ** 50]
    spoilt = [turned(circuit), circuit[:3], circuit[1:], circuit + ([],), (), (circuit,), dict(enumerate(circuit))]
    spoilt += [put(circuit, 0, bad) for bad in NO_NUMBERS]
    spoilt += [put(circuit, k, bad) for k in (1, 2, 3) for bad in (None, 0, True, "", "ab", {}, turned(circuit[k]))]
    for k, (begin, after) in enumerate(memories):
        bad = [turned(memories[k]), None, 0, "ab", {0: begin, 1: after}] + other_lengths(memories[k])
        bad += [(one, after) for one in NO_NUMBERS + [2, 3]] + [(begin, one) for one in no_places]
        spoilt += [put(circuit, 1, put(memories, k, one)) for one in bad]
    for k, gate in enumerate(gates):
        spoilt += [put(circuit, 2, put(gates, k, one)) for one in spoilt_gates(gate, ins + len(memories) + k)]
    for k in range(len(outs)):
        spoilt += [put(circuit, 3, put(outs, k, one)) for one in no_places]
    return spoilt + [put(circuit, 3, outs + [one]) for one in no_places]


class Form(Checks):
    def test_circuits_of_all_shapes(self):
        for circuit in CIRCUITS:
            self.assertIs(is_circuit(circuit), True, circuit)

    def test_circuits_made_up(self):
        chance = Random(1)
        for k in range(300):
            circuit = made_up_circuit(chance, *[chance.randint(0, most) for most in (3, 3, 8, 3)])
            self.assertIs(is_circuit(circuit), True, circuit)

    def test_one_thing_spoilt(self):
        for circuit in CIRCUITS:
            for spoilt in spoilt_circuits(circuit):
                self.assertIs(is_circuit(spoilt), False, spoilt)

    def test_nexts_and_outs_name_any_place(self):
        ins, memories, gates = 2, [(0, 0), (1, 0)], [(8, (0, 2)), (1, (4,))]
        for place in range(6):
            self.assertIs(is_circuit((ins, [(0, place), (1, place)], gates, [place, place])), True)
            self.assertIs(is_circuit((ins, memories, gates, [0, place])), True)
        for place in (-1, 6, 7):
            self.assertIs(is_circuit((ins, [(0, place), (1, 0)], gates, [])), False)
            self.assertIs(is_circuit((ins, [(0, 0), (1, place)], gates, [])), False)
            self.assertIs(is_circuit((ins, memories, gates, [0, place])), False)

    def test_gates_name_places_below_their_own(self):
        for k in range(3):
            for place in range(-2, 7):
                gates = [(2, (0,)), (2, (0,)), (2, (0,))]
                gates[k] = (2, (place,))
                self.assertIs(is_circuit((1, [(0, 0)], gates, [])), 0 <= place < 2 + k)

    def test_tables_as_great_as_they_can_be(self):
        for many, most in ((0, 1), (1, 3), (2, 15), (3, 255)):
            for table in (0, 1, most - 1, most, most + 1, -1):
                circuit = (1, [], [(table, (0,) * many)], [])
                self.assertIs(is_circuit(circuit), 0 <= table <= most, circuit)
        self.assertIs(is_circuit((1, [], [(0, (0,) * 4)], [])), False)

    def test_begins(self):
        for begin in (0, 1):
            self.assertIs(is_circuit((0, [(begin, 0)], [], [])), True)
        for begin in (2, -1, True, False, None, "0", 0.0):
            self.assertIs(is_circuit((0, [(begin, 0)], [], [])), False)

    def test_of_anything(self):
        for thing in ODD_THINGS + [0, 1, -1, 10 ** 59, "", "abcd", "part main in x 1 end", [0, [], [], []], (0,) * 4]:
            self.assertIs(is_circuit(thing), False, thing)
            for k in range(4):
                # A whole number can be the ins, and a list any of the others.
                if type(thing) is not (int if k == 0 else list):
                    self.assertIs(is_circuit(put((1, [(0, 0)], [(2, (0,))], [0]), k, thing)), False, thing)
            self.assertIs(is_circuit((1, [thing], [], [])), False)
            self.assertIs(is_circuit((1, [], [thing], [])), False)
            self.assertIs(is_circuit((1, [], [(0, thing)], [])), thing in [(), (0,)])

    def test_many_ins_are_not_walked(self):
        self.assertIs(is_circuit((10 ** 59, [(0, 10 ** 58)], [(2, (10 ** 59,))], [10 ** 59 + 1])), True)
        self.assertIs(is_circuit((10 ** 59, [(0, 10 ** 58)], [(2, (10 ** 59,))], [10 ** 59 + 2])), False)


class Turns(Checks):
    def agrees(self, circuit, state, ins):
        found = values(circuit, state, ins)
        self.assertEqual(found, values_by_point(circuit, state, ins), (circuit, state, ins))
        for value in found:
            self.whole(value)
        turn = step(circuit, state, ins)
        self.assertIs(type(turn), tuple)
        self.assertEqual(turn, tuple(turn_by_point(circuit, state, ins)))

    def test_every_table(self):
        for many in range(4):
            for table in range(2 ** 2 ** many):
                circuit = (many, [], [(table, tuple(range(many)))], [many])
                figures = format(table, "b")[::-1].ljust(8, "0")
                for bits in lists_of_bits(many):
                    value = int(figures[sum([bit * worth for bit, worth in zip(bits, (1, 2, 4))])])
                    self.assertEqual(values(circuit, [], bits), bits + [value])
                    self.assertEqual(step(circuit, [], bits), ([value], []))

    def test_all_states_and_ins_of_circuits_made_up(self):
        chance = Random(2)
        for k in range(150):
            circuit = made_up_circuit(chance, *[chance.randint(0, most) for most in (3, 3, 10, 3)])
            for state in lists_of_bits(len(circuit[1])):
                for ins in lists_of_bits(circuit[0]):
                    self.agrees(circuit, state, ins)

    def test_shapes(self):
        for circuit in CIRCUITS:
            for state in lists_of_bits(len(circuit[1])):
                for ins in lists_of_bits(circuit[0]):
                    self.agrees(circuit, state, ins)

    def test_a_gate_with_one_place_twice(self):
        circuit = (2, [], [(216, (1, 0, 1)), (6, (0, 0)), (9, (0, 0))], [2, 3, 4])
        for one, other in lists_of_bits(2):
            self.assertEqual(step(circuit, [], [one, other])[0], [one if other else 0, 0, 1])

    def test_first_states(self):
        self.assertEqual(first_of((1, [(1, 0), (0, 1), (1, 1)], [], [])), [1, 0, 1])
        self.assertEqual(first_of((1, [], [(0, ())], [1])), [])
        for circuit in CIRCUITS:
            self.assertEqual(first_of(circuit), [begin for begin, after in circuit[1]])

    def test_nexts_take_what_stood_ahead_of_the_turn(self):
        swap = (0, [(0, 1), (1, 2), (1, 0)], [], [0, 1, 2])
        self.assertEqual(step(swap, [0, 1, 1], []), ([0, 1, 1], [1, 1, 0]))
        self.assertEqual(run_bits(swap, [[]] * 4), [[0, 1, 1], [1, 1, 0], [1, 0, 1], [0, 1, 1]])
        later = (1, [(0, 0), (0, 1), (0, 2)], [], [3])
        self.assertEqual(run_bits(later, [[1], [0], [1], [1], [0], [0]]), [[0], [0], [0], [1], [0], [1]])

    def test_an_out_is_ahead_of_the_turn(self):
        circuit = (1, [(0, 2)], [(6, (0, 1))], [1, 2])
        self.assertEqual(step(circuit, [1], [1]), ([1, 0], [0]))
        self.assertEqual(run_bits(circuit, [[1], [1], [0], [1]]), [[0, 1], [1, 0], [0, 0], [0, 1]])

    def test_runs(self):
        circuit = (1, [(1, 2)], [(6, (0, 1))], [1])
        self.assertEqual(run_bits(circuit, []), [])
        self.assertEqual(run_bits(circuit, [[1]]), [[1]])
        self.assertEqual(run_bits(circuit, [[1], [1], [0]]), [[1], [0], [1]])
        self.assertEqual(run_bits((0, [], [], []), [[], []]), [[], []])

    def test_runs_of_circuits_made_up(self):
        chance = Random(3)
        for k in range(150):
            circuit = made_up_circuit(chance, *[chance.randint(0, most) for most in (3, 4, 10, 3)])
            for many in (0, 1, 2, 7):
                rows = [[chance.randrange(2) for k in range(circuit[0])] for row in range(many)]
                self.assertEqual(run_bits(circuit, rows), run_by_point(circuit, rows))

    def test_own_lists(self):
        circuit = (2, [(0, 4), (1, 3)], [(8, (0, 2)), (6, (1, 4))], [4, 0])
        self.own_lists(first_of, circuit)
        self.own_lists(values, circuit, [0, 1], [1, 0])
        self.own_lists(step, circuit, [0, 1], [1, 0])
        self.own_lists(run_bits, circuit, [[0, 1], [1, 0], [1, 1]])
        self.own_lists(values, (0, [], [], []), [], [])
        self.own_lists(values, (2, [], [], []), [], [1, 0])
        self.own_lists(depth, circuit)
        self.own_lists(is_circuit, circuit)


class Depths(Checks):
    def test_no_gates_and_gates_without_places(self):
        for circuit in [(0, [], [], []), (3, [(0, 1)], [], [2]), (0, [], [(1, ())], [0]),
                        (1, [(0, 3)], [(0, ()), (1, ())], [2])]:
            self.assertEqual(depth(circuit), 0)

    def test_one_gate(self):
        for ahead in [(1, [], []), (0, [(0, 0)], []), (0, [], [(1, ())])]:
            circuit = ahead[:2] + (ahead[2] + [(2, (0,))], [])
            self.assertEqual(depth(circuit), 1)

    def test_the_greatest_of_its_places(self):
        circuit = (1, [(0, 1)], [(1, ()), (2, (2,)), (6, (0, 3)), (9, (1, 0)), (150, (2, 4, 5)), (8, (5, 0))], [0])
        for many, wanted in enumerate([0, 0, 1, 2, 2, 3, 3]):
            self.assertEqual(depth(circuit[:2] + (circuit[2][:many], [])), wanted)

    def test_rows_of_gates(self):
        for many in (1, 2, 50, 4000):
            circuit = (1, [], [(1, (k,)) for k in range(many)], [many])
            self.assertEqual(depth(circuit), many)
            self.assertEqual(run_bits(circuit, [[0], [1]]), [[many % 2], [1 - many % 2]])
        self.assertEqual(depth((1, [], [(1, (0,)) for k in range(20)], [])), 1)

    def test_nexts_are_not_gone_through(self):
        self.assertEqual(depth((0, [(0, 1)], [(1, (0,))], [1])), 1)
        self.assertEqual(depth((1, [(0, 3), (0, 4)], [(1, (0,)), (1, (1,)), (1, (2,))], [5])), 1)

    def test_gates_that_nothing_names_count(self):
        self.assertEqual(depth((1, [], [(1, (0,)), (1, (1,)), (1, (0,))], [3])), 2)

    def test_against_the_longest_way_down(self):
        chance = Random(4)
        for k in range(100):
            ins, memories, gates, outs = circuit = made_up_circuit(
                chance, *[chance.randint(0, most) for most in (2, 2, 12, 1)])

            def deep(place):
                if place < ins + len(memories) or not gates[place - ins - len(memories)][1]:
                    return 0
                return 1 + max(map(deep, gates[place - ins - len(memories)][1]))

            ahead = ins + len(memories)
            self.assertEqual(depth(circuit), max([deep(ahead + k) for k in range(len(gates))], default=0))
            self.whole(depth(circuit))
