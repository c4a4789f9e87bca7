"""Roots, inner gates, and the tables of gates over their cuts."""

from random import Random

from gatepapers.cuts import inner_gates, roots_of, tables_by_cut
from tests.helper import Checks, cuts_by_point, made_up_plain, roots_by_point, table_by_point

# Ins 0 and 1, a memory 2 (next 5), a steady gate 3, gates 4 to 9; 9 is an out, 6 stands twice among places.
CIRCUIT = (2, [(0, 5)], [(1, ()), (8, (0, 3)), (1, (4,)), (8, (1, 2)), (1, (6,)), (8, (6, 7)), (8, (5, 8))], [9, 0, 3])


class Roots(Checks):
    def test_roots_and_inner_gates(self):
        self.assertEqual(roots_of(CIRCUIT), {5: True, 6: True, 9: True})
        self.assertEqual(inner_gates(CIRCUIT, roots_of(CIRCUIT)), {4: True, 7: True, 8: True})
        self.assertEqual(roots_of((2, [(0, 0)], [(1, ())], [3, 0, 2])), {})

    def test_made_up(self):
        chance = Random(71)
        for k in range(100):
            circuit = made_up_plain(chance)
            roots = roots_by_point(circuit)
            self.assertEqual(sorted(roots_of(circuit)), roots)
            ahead = circuit[0] + len(circuit[1])
            inner = [ahead + k for k, (table, places) in enumerate(circuit[2]) if places and ahead + k not in roots]
            self.assertEqual(sorted(inner_gates(circuit, roots_of(circuit))), inner)


class Tables(Checks):
    def test_tables(self):
        inner = inner_gates(CIRCUIT, roots_of(CIRCUIT))
        # Gate 8 is 6 and its not.
        self.assertEqual(tables_by_cut(CIRCUIT, inner, 8), {(6, 7): 8, (6,): 0})
        self.assertEqual(tables_by_cut(CIRCUIT, inner, 9), {(5, 8): 8, (5, 6, 7): 128, (5, 6): 0})
        self.assertEqual(tables_by_cut(CIRCUIT, inner, 5), {(4,): 1, (0, 3): 7})
        self.assertEqual(tables_by_cut(CIRCUIT, inner, 7), {(6,): 1})
        self.assertEqual(tables_by_cut(CIRCUIT, inner, 6), {(1, 2): 8})
        self.assertEqual(tables_by_cut(CIRCUIT, inner, 3), {(): 1})

    def test_made_up(self):
        chance = Random(72)
        for k in range(120):
            circuit = made_up_plain(chance)
            inner = inner_gates(circuit, roots_of(circuit))
            for gate in range(circuit[0] + len(circuit[1]), circuit[0] + len(circuit[1]) + len(circuit[2])):
                told = tables_by_cut(circuit, inner, gate)
                self.assertEqual(sorted([list(cut) for cut in told]), cuts_by_point(circuit, gate))
                for cut, table in told.items():
                    self.assertEqual(table, table_by_point(circuit, gate, cut), (circuit, gate, cut))
