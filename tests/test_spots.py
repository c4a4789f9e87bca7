"""Spots of two circuits and of helpers: their form, what lies below them, and what follows from known columns."""

from gatepapers.spots import Ground, is_spot
from tests.helper import ODD_THINGS, Checks

ONE = (1, [(0, 2)], [(6, (0, 1)), (8, (2, 1))], [3])
OTHER = (1, [(1, 1)], [(1, (1,)), (0, ())], [2])
HELPERS = [(8, ((0, 3), (1, 2))), (2, ((2, 0),)), (1, ())]


class Form(Checks):
    def test_spots(self):
        for which, many in ((0, 4), (1, 3), (2, 5)):
            for number in range(-2, 7):
                self.assertIs(is_spot((which, number), [4, 3, 5]), 0 <= number < many)

    def test_of_anything(self):
        bad = [(3, 0), (-1, 0), (0, 4), (True, 0), (0, True), (0, 0, 0), (0,), [0, 0], (0, None), (None, 0), (0, "0"), 0, "00"]
        for thing in bad + [thing for thing in ODD_THINGS if thing != (1, 2)]:
            self.assertIs(is_spot(thing, [4, 4, 4]), False, thing)


class Grounds(Checks):
    GROUND = Ground(ONE, OTHER, HELPERS)

    def test_all_below(self):
        self.assertEqual(self.GROUND.all_below({}, [(0, 0)]), [(0, 0)])
        self.assertEqual(self.GROUND.all_below({}, [(0, 3)]), [(0, 0), (0, 1), (0, 2), (0, 3)])
        self.assertEqual(self.GROUND.all_below({}, [(2, 1), (1, 3)]), [
            (0, 0), (0, 1), (0, 2), (0, 3), (1, 1), (1, 2), (1, 3), (2, 0), (2, 1)])
        self.assertEqual(self.GROUND.all_below({(0, 2): 1, (1, 2): 0}, [(2, 1)]), [(0, 1), (0, 3), (2, 0), (2, 1)])
        self.assertEqual(self.GROUND.all_below({(2, 1): 1}, [(2, 1)]), [])

    def test_nexts_are_left_out(self):
        self.assertEqual(self.GROUND.all_below({}, [(0, 1), (1, 1)]), [(0, 1), (1, 1)])
        self.assertEqual(self.GROUND.afters, {(0, 1): (0, 2), (1, 1): (1, 1)})
        self.assertEqual(self.GROUND.begins, {(0, 1): 0, (1, 1): 1})

    def test_reckoned_as_far_as_it_goes(self):
        known = {(0, 0): 0b0011, (0, 1): 0b0101}
        found = self.GROUND.reckoned(known, [(0, 3), (2, 0), (2, 2), (1, 3)], 0b1111)
        self.assertEqual(found, {**known, (0, 2): 0b0110, (0, 3): 0b0100, (2, 2): 0b1111, (1, 3): 0})
        known[(1, 1)] = 0b1010
        found = self.GROUND.reckoned(known, [(2, 1)], 0b1111)
        self.assertEqual((found[(1, 2)], found[(2, 0)], found[(2, 1)]), (0b0101, 0b0100, 0b0100))
        # What is known is not reckoned again.
        self.assertEqual(self.GROUND.reckoned({(1, 3): 1}, [(1, 3)], 1), {(1, 3): 1})
