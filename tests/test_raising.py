"""How often gates are to be moved over, at the least, for a depth."""

from gatepapers.move import shows
from gatepapers.raising import raised, ring_of
from tests.helper import Checks, chain, ring


class Raised(Checks):
    def test_counts(self):
        self.assertEqual(raised(chain(2, 3), 3), ({3: 0, 4: 0, 5: 0}, [], []))
        self.assertEqual(raised(chain(2, 3), 2), ({3: 1, 4: 0, 5: 0}, [], []))
        self.assertEqual(raised(chain(2, 3), 1), ({3: 2, 4: 1, 5: 0}, [], []))
        self.assertEqual(raised(ring(2, 4), 2), ({2: 1, 3: 1, 4: 0, 5: 0}, [], []))
        self.assertEqual(raised(ring(3, 3), 1), ({3: 2, 4: 1, 5: 0}, [], []))

    def test_open_ways(self):
        counts, way, marks = raised(chain(2, 4), 1)
        self.assertIsNone(counts)
        self.assertEqual((way, marks), ([(3, 0), (4, 0), (5, 0), (6, 0)], [0, 1, 2, 3]))
        counts, way, marks = raised(chain(0, 2), 1)
        self.assertIsNone(counts)
        self.assertEqual((way, marks), ([(1, 0), (2, 0)], [0, 1]))

    def test_rings(self):
        counts, way, marks = raised(ring(2, 4), 1)
        self.assertIsNone(counts)
        self.assertIs(shows(ring(2, 4), way, marks, 1), True)
        self.assertIs(shows(ring(2, 4), way, marks, 2), False)

    def test_ring_of(self):
        way = [(5, None), (6, 0), (7, 0), (8, 0), (6, 1), (9, 0)]
        self.assertEqual(ring_of(way, [0, 1, 3, 4, 5]), ([(7, 0), (8, 0), (6, 1)], [1, 2]))
        self.assertEqual(ring_of(way, [0, 2, 4]), ([], []))
