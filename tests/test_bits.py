"""Bits of numbers, and numbers of bits."""

from gatepapers.bits import bits_of, is_below, is_whole, number_of
from tests.helper import ODD_THINGS, Checks, lists_of_bits


class Whole(Checks):
    def test_whole_numbers(self):
        for number in (0, 1, -1, 255, 10 ** 59, -10 ** 59):
            self.assertIs(is_whole(number), True)
        for thing in ODD_THINGS + ["", "0"]:
            self.assertIs(is_whole(thing), False, thing)

    def test_below_a_bound(self):
        for bound in (0, 1, 2, 8):
            for number in range(-2, 10):
                self.assertIs(is_below(number, bound), number in range(bound))
            for thing in ODD_THINGS + ["", "0", 10 ** 59, -10 ** 59]:
                self.assertIs(is_below(thing, bound), False, thing)


class Bits(Checks):
    def test_every_number_of_every_width(self):
        for width in range(1, 9):
            for number in range(2 ** width):
                bits = bits_of(number, width)
                self.assertIs(type(bits), list)
                self.assertEqual(len(bits), width)
                for k, bit in enumerate(bits):
                    self.whole(bit)
                    self.assertEqual(bit, number // 2 ** k % 2)
                self.assertEqual(number_of(bits), number)

    def test_every_list_of_bits(self):
        for width in range(1, 9):
            for bits in lists_of_bits(width):
                number = number_of(bits)
                self.whole(number)
                self.assertEqual(number, sum([2 ** k for k, bit in enumerate(bits) if bit]))
                self.assertEqual(bits_of(number, width), bits)

    def test_lowest_first(self):
        self.assertEqual(bits_of(1, 4), [1, 0, 0, 0])
        self.assertEqual(bits_of(6, 3), [0, 1, 1])
        self.assertEqual(bits_of(200, 8), [0, 0, 0, 1, 0, 0, 1, 1])
        self.assertEqual(number_of([0, 1, 1]), 6)

    def test_list_told_is_new(self):
        first = bits_of(5, 3)
        again = bits_of(5, 3)
        self.assertIsNot(first, again)
        first[0] = 7
        first.append(7)
        self.assertEqual(again, [1, 0, 1])
        self.assertEqual(bits_of(5, 3), [1, 0, 1])

    def test_list_handed_in_stays(self):
        for bits in lists_of_bits(4):
            kept = list(bits)
            number_of(bits)
            self.assertEqual(bits, kept)

    def test_somewhat_beyond_the_widths(self):
        self.assertEqual(bits_of(300, 9), [0, 0, 1, 1, 0, 1, 0, 0, 1])
        self.assertEqual(number_of([0] * 9 + [1]), 512)
        self.assertEqual(bits_of(0, 0), [])
        self.assertEqual(number_of([]), 0)
