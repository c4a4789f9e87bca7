"""Columns: all trials at once, against one trial after another."""

from random import Random

from gatepapers.columns import all_trials, column_of, column_told
from tests.helper import Checks


class Columns(Checks):
    def test_all_bits_are_tried(self):
        for many in range(9):
            self.assertEqual(all_trials(many), int("1" * 2 ** many, 2))
            columns = [column_of(k, many) for k in range(many)]
            tried = [tuple([column >> trial & 1 for column in columns]) for trial in range(2 ** many)]
            self.assertEqual(len(set(tried)), 2 ** many)
            for trial, bits in enumerate(tried):
                self.assertEqual(bits, tuple([trial >> k & 1 for k in range(many)]))
            for column in columns:
                self.assertLessEqual(column, all_trials(many))

    def test_every_table(self):
        chance = Random(1)
        for many in range(4):
            for table in range(2 ** 2 ** many):
                for trials in (1, 2, 8, 256):
                    whole = 2 ** trials - 1
                    columns = [chance.randrange(whole + 1) for k in range(many)]
                    found = column_told(table, columns, whole)
                    self.assertTrue(0 <= found <= whole)
                    for trial in range(trials):
                        at = sum([(column >> trial & 1) << k for k, column in enumerate(columns)])
                        self.assertEqual(found >> trial & 1, table >> at & 1)
