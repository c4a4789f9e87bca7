"""Steps back through memories, and what marks on a way bound."""

from gatepapers.ways import are_marks, block_sizes, gate_at, is_open, led_back, step_back, steps_of
from tests.helper import ODD_THINGS, Checks

# An in 0; memories 1 (next 0), 2 (next 1), 3 (next 8), 4 and 5 (round to one another), 6 (next 7, steady);
# gates 7 (steady), 8 (over 2 and 3), 9 (over 4, 6 and 8).
CIRCUIT = (1, [(0, 0), (0, 1), (0, 8), (0, 5), (0, 4), (0, 7)], [(1, ()), (6, (2, 3)), (150, (4, 6, 8))], [9])


class Steps(Checks):
    def test_gates(self):
        self.assertEqual([gate_at(CIRCUIT, place) for place in (0, 6, 7, 8)], [None, None, (1, ()), (6, (2, 3))])

    def test_where_memories_lead(self):
        told = [led_back(CIRCUIT, place) for place in range(10)]
        self.assertEqual(told, [(0, 0), (0, 1), (0, 2), (8, 1), None, None, None, None, (8, 0), (9, 0)])
        self.assertIsNone(led_back((0, [(0, 0)], [], []), 0))
        self.assertIsNone(led_back((0, [(0, 1), (0, 2), (0, 1)], [], []), 0))
        self.assertEqual(led_back((1, [(0, 2), (0, 3), (0, 0)], [], []), 1), (0, 3))
        self.assertEqual(led_back((1, [(0, 0)], [], []), 1), (0, 1))

    def test_steps(self):
        self.assertEqual(step_back(CIRCUIT, (8, 0)), (0, 2))
        self.assertEqual(step_back(CIRCUIT, (8, 1)), (8, 1))
        self.assertEqual(step_back(CIRCUIT, (9, 2)), (8, 0))
        for thing in ODD_THINGS + [(9, 0), (9, 1), (8, 2), (8, -1), (9, 3), (7, 0), (6, 0), (0, 0), (10, 0), (-1, 0),
                                   (8, True), (8, 0, 0), [8, 0], (8,), "80", (8, None), (8.0, 0), (10 ** 50, 0)]:
            self.assertIsNone(step_back(CIRCUIT, thing), thing)

    def test_ways(self):
        self.assertEqual(steps_of(CIRCUIT, [(8, 0), (9, 2)]), [(0, 2), (8, 0)])
        self.assertEqual(steps_of(CIRCUIT, [(8, 1)]), [(8, 1)])
        self.assertEqual(steps_of(CIRCUIT, [(8, 0), (8, 1), (8, 1)]), [(0, 2), (8, 1), (8, 1)])
        for way in ODD_THINGS + [[(9, 2)], [(9, 2), (8, 0)], [(8, 1), (9, 2)], [(8, 0), (8, 0)], [(8, 0), (9, 0)],
                                 [(8, 0), None], [None], ((8, 0), (9, 2)), [[8, 0]]]:
            self.assertIsNone(steps_of(CIRCUIT, way), way)

    def test_open_ways_and_rings(self):
        self.assertIs(is_open(CIRCUIT, [(0, 2), (8, 0)]), True)
        self.assertIs(is_open(CIRCUIT, [(8, 1)]), False)


class Marks(Checks):
    def test_marks(self):
        self.assertIs(are_marks([0, 2, 4], 5, True), True)
        self.assertIs(are_marks([0, 4], 5, True), True)
        self.assertIs(are_marks([1, 3], 5, False), True)
        self.assertIs(are_marks([0, 1, 2, 3, 4], 5, False), True)
        for marks in ODD_THINGS + [[0], [4], [0, 0], [4, 0], [0, 2, 2, 4], [0, 5], [-1, 4], [0, True, 4], [0, None, 4],
                                   (0, 4), [0, "4"], [0, 4.0], [[0], [4]], "04", {0: 4}]:
            if marks != [1, 2]:
                self.assertIs(are_marks(marks, 5, False), False, marks)
            self.assertIs(are_marks(marks, 5, True), False, marks)
        for marks in ([1, 4], [0, 3], [0, 1, 2, 3], [1, 2, 3, 4]):
            self.assertIs(are_marks(marks, 5, True), False, marks)
            self.assertIs(are_marks(marks, 5, False), True, marks)
        self.assertIs(are_marks([False, True], 2, True), False)
        self.assertIs(are_marks([0, 0], 1, True), False)

    def test_blocks(self):
        self.assertEqual(block_sizes([0, 2, 6], 7, True), [3, 5])
        self.assertEqual(block_sizes([0, 2, 6], 7, False), [3, 5, 2])
        self.assertEqual(block_sizes([1, 4], 6, False), [4, 4])
        self.assertEqual(block_sizes([0, 1], 2, False), [2, 2])
