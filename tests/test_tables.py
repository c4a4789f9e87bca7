"""Tables: what they tell, what they hang on, what can be done to one."""

from itertools import permutations

from gatepapers.tables import fixed, flipped, hangs, is_table, joined, ordered, told
from tests.helper import ODD_THINGS, Checks, lists_of_bits


def tables(many):
    return range(2 ** 2 ** many)


def with_bit(bits, k, bit):
    return bits[:k] + [bit] + bits[k + 1:]


class Told(Checks):
    def test_every_table_and_all_bits(self):
        for many in range(4):
            for table in tables(many):
                figures = format(table, "b")[::-1].ljust(8, "0")
                for bits in lists_of_bits(many):
                    kept = list(bits)
                    tell = told(table, bits)
                    self.whole(tell)
                    self.assertEqual(bits, kept)
                    at = sum([bit * worth for bit, worth in zip(bits, (1, 2, 4))])
                    self.assertEqual(tell, int(figures[at]))

    def test_examples(self):
        for one, other in lists_of_bits(2):
            self.assertEqual(told(8, [one, other]), int(one == other == 1))
            self.assertEqual(told(6, [one, other]), int(one != other))
        for bit in (0, 1):
            self.assertEqual(told(1, [bit]), 1 - bit)
            self.assertEqual(told(2, [bit]), bit)
            self.assertEqual(told(bit, []), bit)
        for first, second, third in lists_of_bits(3):
            self.assertEqual(told(216, [first, second, third]), second if first else third)

    def test_places_are_not_alike(self):
        self.assertEqual(told(2, [1, 0]), 1)
        self.assertEqual(told(2, [0, 1]), 0)
        self.assertEqual(told(16, [0, 0, 1]), 1)


class Done(Checks):
    """What is made of a table, against what told tells over all bits."""

    def agrees(self, table, many, tell):
        self.whole(table)
        self.assertTrue(0 <= table < 2 ** 2 ** many)
        for bits in lists_of_bits(many):
            self.assertEqual(told(table, bits), tell(bits))

    def test_hangs(self):
        for many in range(4):
            for table in tables(many):
                for k in range(many):
                    unlike = [bits for bits in lists_of_bits(many)
                              if told(table, with_bit(bits, k, 0)) != told(table, with_bit(bits, k, 1))]
                    self.assertIs(hangs(table, many, k), bool(unlike))

    def test_fixed(self):
        for many in range(1, 4):
            for table in tables(many):
                for k in range(many):
                    for bit in (0, 1):
                        self.agrees(fixed(table, many, k, bit), many - 1,
                                    lambda bits: told(table, bits[:k] + [bit] + bits[k:]))

    def test_joined(self):
        for many in (2, 3):
            for table in tables(many):
                for j in range(many):
                    for k in range(j):
                        self.agrees(joined(table, many, k, j), many - 1,
                                    lambda bits: told(table, bits[:j] + [bits[k]] + bits[j:]))

    def test_flipped(self):
        for many in range(1, 4):
            for table in tables(many):
                for k in range(many):
                    other = flipped(table, many, k)
                    self.agrees(other, many, lambda bits: told(table, with_bit(bits, k, 1 - bits[k])))
                    self.assertEqual(flipped(other, many, k), table)

    def test_ordered(self):
        for many in range(4):
            for order in [list(order) for order in permutations(range(many))]:
                kept = list(order)
                back = [order.index(k) for k in range(many)]
                for table in tables(many):
                    other = ordered(table, order)
                    self.assertEqual(order, kept)
                    self.agrees(other, many, lambda bits: told(table, [bits[back[k]] for k in range(many)]))
                    self.assertEqual(ordered(other, back), table)

    def test_ordered_by_hand(self):
        # 216 chooses by its first place; told by the order [2, 0, 1] it chooses by its second.
        chosen = ordered(216, [2, 0, 1])
        for third, first, second in lists_of_bits(3):
            self.assertEqual(told(chosen, [third, first, second]), second if first else third)


class IsTable(Checks):
    def test_edges(self):
        for many in range(4):
            most = 2 ** 2 ** many
            for thing, so in ((-1, False), (0, True), (1, True), (most - 1, True), (most, False), (most + 1, False)):
                self.assertIs(is_table(thing, many), so, (thing, many))

    def test_every_small_number(self):
        for many in range(4):
            for thing in range(-300, 300):
                self.assertIs(is_table(thing, many), thing in tables(many))

    def test_great_numbers(self):
        for many in range(4):
            for figures in range(4, 61):
                for thing in (10 ** figures - 1, 10 ** (figures - 1), 7 * 10 ** (figures - 1)):
                    self.assertIs(is_table(thing, many), False)
                    self.assertIs(is_table(-thing, many), False)

    def test_other_things(self):
        for many in range(4):
            for thing in ODD_THINGS + ["", "0", "1", "-1", "00", "a", "part", " ", "0.0"]:
                self.assertIs(is_table(thing, many), False, thing)

    def test_no_table_is_over_other_places(self):
        for many in (-1, 4, 5, 10 ** 59, None, True, "1", [1]):
            self.assertIs(is_table(0, many), False)
