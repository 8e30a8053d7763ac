"""Promises 2, 3, 4 and 5: low bits, ending bits and rows."""

import itertools
import random
import unittest

from packhall.bits import ending_bits, low_bits, number_of, read_ending, read_row, row_bits
from packhall.errors import Broken, NoNumber

GREATEST = 10 ** 200 - 1
GREAT = [10 ** 59, 10 ** 60 - 1, 10 ** 199, GREATEST, 2 ** 663, 2 ** 664 - 1, 2 ** 664]
# 10 ** 200 - 1 has 665 bits.
BITS_OF_GREATEST = 665


def all_bits(most):
    for many in range(most + 1):
        for bits in itertools.product([0, 1], repeat=many):
            yield list(bits)


def bits_of(digits):
    return [int(digit) for digit in digits]


class LowBits(unittest.TestCase):
    def test_greatest_first(self):
        self.assertEqual(low_bits(6, 3), [1, 1, 0])
        self.assertEqual(low_bits(1, 1), [1])
        self.assertEqual(low_bits(255, 8), [1] * 8)
        self.assertEqual(low_bits(128, 8), [1] + [0] * 7)

    def test_noughts_ahead(self):
        self.assertEqual(low_bits(6, 5), [0, 0, 1, 1, 0])
        self.assertEqual(low_bits(0, 4), [0, 0, 0, 0])
        self.assertEqual(low_bits(1, 1000), [0] * 999 + [1])

    def test_no_bits(self):
        self.assertEqual(low_bits(0, 0), [])
        for n in (1, 2, 7, GREATEST):
            with self.assertRaises(NoNumber):
                low_bits(n, 0)

    def test_one_bit_too_few(self):
        for n in [1, 2, 3, 4, 7, 8, 255, 256] + GREAT:
            enough = len(bin(n)) - 2
            self.assertEqual(low_bits(n, enough), bits_of(bin(n)[2:]))
            with self.assertRaises(NoNumber):
                low_bits(n, enough - 1)

    def test_below_nought(self):
        for n in (-1, -2, -8, -10 ** 60, -GREATEST):
            for k in (0, 1, 2, 8, 700):
                with self.subTest(n=n, k=k), self.assertRaises(NoNumber):
                    low_bits(n, k)

    def test_all_small_ones(self):
        for k in range(8):
            for n in range(2 ** k):
                digits = bin(n)[2:].rjust(k, "0")[-k:] if k else ""
                self.assertEqual(low_bits(n, k), bits_of(digits))
            for n in range(2 ** k, 2 ** k + 40):
                with self.assertRaises(NoNumber):
                    low_bits(n, k)

    def test_great_numbers(self):
        self.assertEqual(GREATEST.bit_length(), BITS_OF_GREATEST)
        for n in GREAT:
            bits = low_bits(n, 700)
            self.assertEqual(bits, bits_of(bin(n)[2:].rjust(700, "0")))
            self.assertEqual(number_of(bits), n)


class NumberOf(unittest.TestCase):
    def test_of_no_bits(self):
        self.assertEqual(number_of([]), 0)

    def test_what_they_write(self):
        self.assertEqual(number_of([0]), 0)
        self.assertEqual(number_of([1]), 1)
        self.assertEqual(number_of([1, 0]), 2)
        self.assertEqual(number_of([0, 0, 1, 1, 0]), 6)
        self.assertEqual(number_of([1] * 664), 2 ** 664 - 1)

    def test_there_and_back(self):
        for bits in all_bits(9):
            self.assertEqual(low_bits(number_of(bits), len(bits)), bits)

    def test_bits_stay_as_they_were(self):
        bits = [1, 0, 1, 1]
        number_of(bits)
        self.assertEqual(bits, [1, 0, 1, 1])


class EndingBits(unittest.TestCase):
    def test_the_examples(self):
        self.assertEqual(ending_bits(1), [1])
        self.assertEqual(ending_bits(2), [0, 1, 0])
        self.assertEqual(ending_bits(5), [0, 0, 1, 0, 1])

    def test_others(self):
        self.assertEqual(ending_bits(3), [0, 1, 1])
        self.assertEqual(ending_bits(4), [0, 0, 1, 0, 0])
        self.assertEqual(ending_bits(8), [0, 0, 0, 1, 0, 0, 0])

    def test_nought_and_below(self):
        for n in (0, -1, -2, -5, -GREATEST):
            with self.subTest(n=n), self.assertRaises(NoNumber):
                ending_bits(n)

    def test_great_numbers(self):
        for n in GREAT:
            digits = bin(n)[2:]
            self.assertEqual(ending_bits(n), [0] * (len(digits) - 1) + bits_of(digits))


class ReadEnding(unittest.TestCase):
    def test_there_and_back(self):
        for n in list(range(1, 300)) + GREAT:
            bits = ending_bits(n)
            self.assertEqual(read_ending(bits, 0), (n, len(bits)))

    def test_a_tuple_is_told(self):
        self.assertIsInstance(read_ending([1], 0), tuple)

    def test_other_bits_ahead_and_behind(self):
        for n in (1, 2, 5, 77, GREATEST):
            bits = ending_bits(n)
            for ahead in ([], [0], [1], [0, 0, 1], [1, 1, 0, 0]):
                for behind in ([], [0], [1], [1, 0, 1]):
                    place = len(ahead)
                    told = read_ending(ahead + bits + behind, place)
                    self.assertEqual(told, (n, place + len(bits)))

    def test_each_place_of_several_numbers(self):
        # 0 1 0, 0 0 1 0 1, 1, 0 1 1
        bits = [0, 1, 0, 0, 0, 1, 0, 1, 1, 0, 1, 1]
        told = [(2, 3), (1, 2), (11, 9), (5, 8), (2, 7), (1, 6), (3, 9), (1, 8), (1, 9), (3, 12), (1, 11), (1, 12)]
        self.assertEqual([read_ending(bits, at) for at in range(len(bits))], told)

    def test_one_behind_the_other(self):
        numbers = [5, 1, 2, GREATEST, 9, 1, 1, 1024]
        bits = []
        for n in numbers:
            bits += ending_bits(n)
        at = 0
        for n in numbers:
            told, at = read_ending(bits, at)
            self.assertEqual(told, n)
        self.assertEqual(at, len(bits))

    def test_cut_off(self):
        for n in (1, 2, 3, 5, 100, 10 ** 60, GREATEST):
            bits = ending_bits(n)
            for end in range(len(bits)):
                with self.subTest(n=n, end=end), self.assertRaises(Broken):
                    read_ending(bits[:end], 0)

    def test_noughts_alone(self):
        for many in range(1, 20):
            for at in range(many):
                with self.assertRaises(Broken):
                    read_ending([0] * many, at)

    def test_places_that_are_none(self):
        for bits in ([], [1], [1, 1, 1], [0, 1, 0]):
            for at in (-1, -2, -3, -10 ** 60, len(bits), len(bits) + 1, len(bits) + 9, 10 ** 60):
                with self.subTest(bits=bits, at=at), self.assertRaises(Broken):
                    read_ending(bits, at)

    def test_any_bits_are_read_as_written_or_refused(self):
        for bits in all_bits(9):
            for at in range(len(bits) + 1):
                written = [n for n in range(1, 32) if bits[at:at + len(ending_bits(n))] == ending_bits(n)]
                if written:
                    self.assertEqual(read_ending(bits, at), (written[0], at + len(ending_bits(written[0]))))
                else:
                    with self.assertRaises(Broken):
                        read_ending(bits, at)


class RowBits(unittest.TestCase):
    def test_no_numbers(self):
        self.assertEqual(row_bits([]), [1])

    def test_one_and_several(self):
        self.assertEqual(row_bits([0]), [0, 1, 0] + [1])
        self.assertEqual(row_bits([4]), [0, 1, 0] + [0, 0, 1, 0, 1])
        self.assertEqual(row_bits([0, 1, 0]), [0, 0, 1, 0, 0] + [1] + [0, 1, 0] + [1])

    def test_below_nought(self):
        for numbers in ([-1], [0, -1], [-1, 0], [3, 4, -2, 5], [GREATEST, -GREATEST]):
            with self.subTest(numbers=numbers), self.assertRaises(NoNumber):
                row_bits(numbers)


class ReadRow(unittest.TestCase):
    rows = [[], [0], [7], [0, 0], [1, 0, 2], list(range(40)), [0] * 1000, [GREATEST, 0, 10 ** 60, 5], GREAT]

    def test_there_and_back(self):
        for numbers in self.rows:
            bits = row_bits(numbers)
            self.assertEqual(read_row(bits, 0), (numbers, len(bits)))

    def test_a_tuple_is_told(self):
        self.assertIsInstance(read_row([1], 0), tuple)

    def test_many_rows_of_chance(self):
        chance = random.Random(5)
        for turn in range(200):
            numbers = [chance.randrange(10 ** chance.randrange(1, 12)) for k in range(chance.randrange(12))]
            bits = row_bits(numbers)
            self.assertEqual(read_row(bits, 0), (numbers, len(bits)))

    def test_other_bits_ahead_and_behind(self):
        for numbers in self.rows:
            bits = row_bits(numbers)
            for ahead in ([0], [1], [0, 1, 1]):
                for behind in ([], [0], [1, 1]):
                    place = len(ahead)
                    told = read_row(ahead + bits + behind, place)
                    self.assertEqual(told, (numbers, place + len(bits)))

    def test_cut_off_anywhere(self):
        for numbers in ([], [0], [7], [0, 0], [1, 0, 2], list(range(12)), [10 ** 60, 3]):
            bits = row_bits(numbers)
            for end in range(len(bits)):
                with self.subTest(numbers=numbers, end=end), self.assertRaises(Broken):
                    read_row(bits[:end], 0)

    def test_more_numbers_told_than_there_are(self):
        with self.assertRaises(Broken):
            read_row(ending_bits(GREATEST) + [1] * 50, 0)

    def test_places_that_are_none(self):
        for bits in ([], [1], [1, 1, 1], [0, 1, 0, 1]):
            for at in (-1, -2, -10 ** 60, len(bits), len(bits) + 1, 10 ** 60):
                with self.subTest(bits=bits, at=at), self.assertRaises(Broken):
                    read_row(bits, at)

    def test_any_bits_are_read_as_written_or_refused(self):
        read = 0
        for bits in all_bits(10):
            for at in range(len(bits)):
                try:
                    numbers, behind = read_row(bits, at)
                except Broken:
                    continue
                self.assertEqual(row_bits(numbers), bits[at:behind])
                read += 1
        self.assertGreater(read, 1000)


class HandedInAndTold(unittest.TestCase):
    def test_what_is_handed_in_stays(self):
        bits = [0, 1, 0, 1, 1, 0, 0, 1]
        numbers = [3, 0, 5]
        for at in range(-1, 10):
            for read in (read_ending, read_row):
                try:
                    read(bits, at)
                except Broken:
                    pass
        row_bits(numbers)
        self.assertEqual(bits, [0, 1, 0, 1, 1, 0, 0, 1])
        self.assertEqual(numbers, [3, 0, 5])
        refused = [3, -1, 5]
        with self.assertRaises(NoNumber):
            row_bits(refused)
        self.assertEqual(refused, [3, -1, 5])

    def test_what_is_told_is_the_askers_own(self):
        asked = [
            lambda: low_bits(5, 6),
            lambda: low_bits(0, 0),
            lambda: ending_bits(1),
            lambda: ending_bits(9),
            lambda: row_bits([]),
            lambda: row_bits([4, 0]),
            lambda: read_row([1], 0)[0],
            lambda: read_row(row_bits([4, 0]), 0)[0],
        ]
        for ask in asked:
            first = ask()
            kept = list(first)
            second = ask()
            self.assertIsNot(first, second)
            first.append(1)
            first[0] = 7
            self.assertEqual(second, kept)
            self.assertEqual(ask(), kept)

    def test_bits_are_whole_numbers(self):
        for bits in (low_bits(5, 6), ending_bits(12), row_bits([0, 3])):
            for bit in bits:
                self.assertIs(type(bit), int)


if __name__ == "__main__":
    unittest.main()
