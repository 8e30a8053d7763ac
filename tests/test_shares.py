"""Promises 2, 3, 20 and 21: exact shares."""

import itertools
import math
import random
import unittest

from packhall.bits import ending_bits, low_bits, row_bits
from packhall.errors import Broken
from packhall.shares import read_share, share_bits, share_of, text_by_share, texts_with

GREAT = 10 ** 60 - 1


def all_texts(signs, most):
    for many in range(most + 1):
        for text in itertools.product(signs, repeat=many):
            yield list(text)


def plain_counts(text):
    return [(sign, text.count(sign)) for sign in sorted(set(text))]


def plain_texts(counts):
    """All texts with these counts, in order as lists are."""
    signs = [sign for sign, times in counts for k in range(times)]
    return [list(text) for text in sorted(set(itertools.permutations(signs)))]


def all_counts(signs, most):
    """All counts of some of these signs, of at most so many signs in all."""
    found = []
    for times in itertools.product(range(most + 1), repeat=len(signs)):
        if sum(times) <= most:
            found.append([(sign, many) for sign, many in zip(signs, times) if many > 0])
    return found


def bits_for(many):
    """As few bits as are enough for so many numbers, from 0 on."""
    bits = 0
    while 2 ** bits < many:
        bits += 1
    return bits


LONG = [
    [0] * 400,
    [255] * 399,
    [1, 2] * 200,
    [2, 1] * 200,
    [1] * 200 + [2] * 200,
    [2] * 200 + [1] * 200,
    [8] + [9] * 398 + [8],
    list(range(256)) + list(range(144)),
    list(range(255, -1, -1)) + list(range(143, -1, -1)),
    random.Random(1).choices(range(256), k=400),
    random.Random(2).choices([0, 255], k=400),
    random.Random(3).choices([10, 11, 12], k=397),
]

NO_COUNTS = [
    # Signs that do not rise.
    [(5, 1), (5, 1)],
    [(5, 1), (4, 1)],
    [(1, 1), (3, 2), (2, 1)],
    # Times below 1.
    [(5, 0)],
    [(5, -1)],
    [(4, 1), (5, 0)],
    [(4, 0), (5, 1)],
    [(4, 3), (5, -2)],
    [(5, -GREAT)],
    # More than 400 in all.
    [(5, 401)],
    [(5, 400), (6, 1)],
    [(sign, 2) for sign in range(201)],
    [(5, GREAT)],
    [(4, 1), (5, 10 ** 9)],
    # What are no signs.
    [(-1, 1)],
    [(256, 1)],
    [(5, 1), (256, 1)],
    [(-1, 1), (5, 1)],
    [(GREAT, 1)],
    # What are no tuples of two whole numbers.
    [(5,)],
    [(5, 1, 1)],
    [()],
    [[5, 1]],
    [5],
    [None],
    [(5, None)],
    [("5", 1)],
    [(5, "1")],
    [(True, 1)],
    [(5, True)],
    # What is no list.
    (),
    ((5, 1),),
    {},
    None,
    5,
]


class TextsWith(unittest.TestCase):
    def test_ordinary(self):
        self.assertEqual(texts_with([]), 1)
        self.assertEqual(texts_with([(5, 1)]), 1)
        self.assertEqual(texts_with([(5, 400)]), 1)
        self.assertEqual(texts_with([(5, 1), (6, 1)]), 2)
        self.assertEqual(texts_with([(5, 2), (6, 2)]), 6)
        self.assertEqual(texts_with([(0, 1), (100, 2), (255, 3)]), 60)

    def test_held_against_all_texts(self):
        for counts in all_counts([0, 3, 255], 6) + all_counts([1, 2, 3, 4], 5):
            self.assertEqual(texts_with(counts), len(plain_texts(counts)))

    def test_many_signs(self):
        for counts in ([(1, 200), (2, 200)], [(0, 1), (255, 399)], [(sign, 1) for sign in range(256)],
                       [(sign, 1 + (sign < 144)) for sign in range(256)], [(1, 399), (2, 1)],
                       [(7, 150), (8, 120), (9, 130)]):
            texts = math.factorial(sum(times for sign, times in counts))
            for sign, times in counts:
                texts //= math.factorial(times)
            self.assertEqual(texts_with(counts), texts)

    def test_what_are_no_counts(self):
        for counts in NO_COUNTS:
            with self.subTest(counts=str(counts)[:40]), self.assertRaises(Broken):
                texts_with(counts)


class ShareOf(unittest.TestCase):
    def test_ordinary(self):
        self.assertEqual(share_of([]), ([], 0))
        self.assertEqual(share_of([5]), ([(5, 1)], 0))
        self.assertEqual(share_of([5, 6]), ([(5, 1), (6, 1)], 0))
        self.assertEqual(share_of([6, 5]), ([(5, 1), (6, 1)], 1))
        self.assertEqual(share_of([6, 6, 5, 5]), ([(5, 2), (6, 2)], 5))

    def test_held_against_all_texts(self):
        for counts in all_counts([0, 3, 255], 6) + all_counts([1, 2, 3, 4], 5):
            for number, text in enumerate(plain_texts(counts)):
                self.assertEqual(share_of(text), (counts, number))

    def test_the_first_and_the_last(self):
        for text in LONG:
            counts = plain_counts(text)
            self.assertEqual(share_of(sorted(text)), (counts, 0))
            self.assertEqual(share_of(sorted(text, reverse=True)), (counts, texts_with(counts) - 1))

    def test_long_texts_one_behind_the_other(self):
        for text in LONG:
            number = share_of(text)[1]
            behind = self.next_text(text)
            if behind is not None:
                self.assertEqual(share_of(behind), (plain_counts(text), number + 1))

    def next_text(self, text):
        """The text behind this one of those with its counts: the shortest ending that can be made greater, is."""
        for at in range(len(text) - 2, -1, -1):
            greater = [sign for sign in text[at + 1:] if sign > text[at]]
            if greater:
                left = text[at:]
                left.remove(min(greater))
                return text[:at] + [min(greater)] + sorted(left)
        return None

    def test_kinds(self):
        for text in ([], [5], [6, 5, 6]):
            told = share_of(text)
            self.assertIs(type(told), tuple)
            self.assertEqual([type(part) for part in told], [list, int])
            self.assertTrue(all(type(part) is tuple for part in told[0]))


class TextByShare(unittest.TestCase):
    def test_ordinary(self):
        self.assertEqual(text_by_share([], 0), [])
        self.assertEqual(text_by_share([(5, 3)], 0), [5, 5, 5])
        self.assertEqual(text_by_share([(5, 2), (6, 2)], 5), [6, 6, 5, 5])

    def test_held_against_all_texts(self):
        for counts in all_counts([0, 3, 255], 6) + all_counts([1, 2, 3, 4], 5):
            for number, text in enumerate(plain_texts(counts)):
                self.assertEqual(text_by_share(counts, number), text)

    def test_long_texts_there_and_back(self):
        for text in LONG:
            counts, number = share_of(text)
            self.assertEqual(text_by_share(counts, number), text)

    def test_great_numbers_there_and_back(self):
        chance = random.Random(4)
        for counts in ([(1, 200), (2, 200)], [(sign, 1 + (sign < 144)) for sign in range(256)], [(7, 200), (9, 100)]):
            texts = texts_with(counts)
            for number in [0, 1, texts // 2, texts - 2, texts - 1] + [chance.randrange(texts) for k in range(20)]:
                text = text_by_share(counts, number)
                self.assertEqual(share_of(text), (counts, number))

    def test_numbers_that_no_text_has(self):
        for counts in all_counts([0, 3, 255], 4) + [[(1, 200), (2, 200)], [(5, 400)]]:
            texts = texts_with(counts)
            for number in (-1, -2, -GREAT, -texts, texts, texts + 1, 2 * texts, texts + GREAT):
                with self.subTest(counts=counts, number=number), self.assertRaises(Broken):
                    text_by_share(counts, number)

    def test_what_are_no_counts(self):
        for counts in NO_COUNTS:
            for number in (0, 1, -1):
                with self.subTest(counts=str(counts)[:40], number=number), self.assertRaises(Broken):
                    text_by_share(counts, number)

    def test_what_is_no_number(self):
        for number in (None, "0", True, False, [], (0,)):
            with self.subTest(number=number), self.assertRaises(Broken):
                text_by_share([(5, 1), (6, 1)], number)

    def test_four_hundred_signs(self):
        self.assertEqual(text_by_share([(5, 400)], 0), [5] * 400)
        self.assertEqual(text_by_share([(5, 399), (6, 1)], 399), [6] + [5] * 399)


class ShareBits(unittest.TestCase):
    def plain_bits(self, text, number):
        counts = plain_counts(text)
        texts = texts_with(counts)
        numbers = [part for pair in counts for part in pair]
        bits = ending_bits(len(numbers) + 1)
        for part in numbers:
            bits += ending_bits(part + 1)
        many = bits_for(texts)
        return bits + [int(letter) for letter in (format(number, "b").zfill(many) if many else "")]

    def test_ordinary(self):
        self.assertEqual(share_bits([]), [1])
        # Two numbers, 0 and 1, then none for the only text.
        self.assertEqual(share_bits([0]), [0, 1, 1] + [1] + [0, 1, 0])
        # Four numbers: 0, 1, 1, 1, then one bit for one of two texts.
        self.assertEqual(share_bits([0, 1]), [0, 0, 1, 0, 1] + [1] + [0, 1, 0] * 3 + [0])
        self.assertEqual(share_bits([1, 0]), [0, 0, 1, 0, 1] + [1] + [0, 1, 0] * 3 + [1])

    def test_as_few_bits_as_are_enough(self):
        # Three texts need two bits, and so do four; five need three.
        for counts, many in (([(0, 2), (1, 1)], 2), ([(0, 3), (1, 1)], 2), ([(0, 4), (1, 1)], 3), ([(0, 7), (1, 1)], 3),
                             ([(0, 8), (1, 1)], 4), ([(0, 9)], 0), ([(0, 1), (1, 1)], 1), ([(0, 15), (1, 1)], 4),
                             ([(0, 16), (1, 1)], 5)):
            head = row_bits([part for pair in counts for part in pair])
            for number in range(texts_with(counts)):
                self.assertEqual(share_bits(text_by_share(counts, number)), head + low_bits(number, many))

    def test_held_against_all_texts(self):
        for counts in all_counts([0, 3, 255], 5):
            for number, text in enumerate(plain_texts(counts)):
                self.assertEqual(share_bits(text), self.plain_bits(text, number))

    def test_one_text_only(self):
        for text in ([], [7], [7] * 2, [0] * 400, [255] * 399):
            self.assertEqual(share_bits(text), row_bits([part for pair in plain_counts(text) for part in pair]))

    def test_long_texts(self):
        for text in LONG:
            self.assertEqual(share_bits(text), self.plain_bits(text, share_of(text)[1]))


class ReadShare(unittest.TestCase):
    def refused(self, bits, at):
        with self.subTest(bits=bits[:30], at=at), self.assertRaises(Broken):
            read_share(bits, at)

    def test_there_and_back(self):
        for text in LONG + list(all_texts([0, 7, 255], 5)) + list(all_texts([1, 2], 8)):
            bits = share_bits(text)
            self.assertEqual(read_share(bits, 0), (text, len(bits)))

    def test_behind_and_ahead_of_other_bits(self):
        for text in LONG + [[], [5], [5, 6], [6, 5, 5], [6, 6, 7, 5]]:
            bits = share_bits(text)
            for ahead in ([0], [1], [0, 0, 0], [1, 0, 1, 1]):
                for more in ([], [0], [1], [0, 0], [1, 1, 1]):
                    behind = len(ahead) + len(bits)
                    self.assertEqual(read_share(ahead + bits + more, len(ahead)), (text, behind))

    def test_one_behind_the_other(self):
        texts = [[5, 6, 5], [], [7] * 9, [3, 2, 1], [0]]
        bits = []
        for text in texts:
            bits += share_bits(text)
        at = 0
        for text in texts:
            told, at = read_share(bits, at)
            self.assertEqual(told, text)
        self.assertEqual(at, len(bits))

    def test_cut_off_ahead_of_the_end(self):
        for text in ([], [0], [5], [5, 6], [6, 6, 5, 5], [1, 2, 3, 4, 5], [9] * 40, LONG[9]):
            bits = share_bits(text)
            for end in range(len(bits)) if len(bits) < 200 else (0, 1, 100, len(bits) - 2, len(bits) - 1):
                self.refused(bits[:end], 0)
                self.refused([1, 0] + bits[:end], 2)

    def test_places_that_are_none(self):
        for text in ([], [5], [5, 6, 5]):
            bits = share_bits(text)
            for at in (-1, -2, -len(bits), -len(bits) - 1, -GREAT, len(bits), len(bits) + 1, len(bits) + 7, GREAT):
                self.refused(bits, at)
        self.refused([], 0)
        self.refused([], -1)
        self.refused([], 1)

    def test_no_ones(self):
        for many in range(12):
            self.refused([0] * many, 0)

    def test_rows_that_are_no_counts(self):
        for numbers in ([5], [5, 1, 6], [5, 0], [5, 1, 5, 1], [6, 1, 5, 1], [256, 1], [5, 401], [5, 400, 6, 1],
                        [5, 1, 256, 1], [5, 1, 6, 0], [GREAT, 1], [5, GREAT]):
            self.refused(row_bits(numbers), 0)
            self.refused(row_bits(numbers) + [0] * 40, 0)
            self.refused([1] + row_bits(numbers) + [0] * 40, 1)

    def test_numbers_that_no_text_has(self):
        for counts in ([(0, 2), (1, 1)], [(0, 4), (1, 1)], [(0, 2), (1, 2)], [(1, 200), (2, 200)]):
            head = row_bits([part for pair in counts for part in pair])
            texts = texts_with(counts)
            many = bits_for(texts)
            last = low_bits(texts - 1, many)
            self.assertEqual(read_share(head + last, 0), (text_by_share(counts, texts - 1), len(head) + many))
            for number in (texts, texts + 1, 2 ** many - 1):
                if texts <= number < 2 ** many:
                    self.refused(head + low_bits(number, many), 0)
                    self.refused(head + low_bits(number, many) + [0, 1], 0)

    def test_any_short_bits(self):
        read = 0
        for many in range(15):
            for bits in itertools.product([0, 1], repeat=many):
                bits = list(bits)
                try:
                    text, behind = read_share(bits, 0)
                except Broken:
                    continue
                read += 1
                self.assertEqual(share_bits(text), bits[:behind])
        self.assertGreater(read, 100)

    def test_four_hundred_signs(self):
        self.assertEqual(read_share(row_bits([5, 400]), 0)[0], [5] * 400)
        self.refused(row_bits([5, 401]), 0)


class HandedInAndTold(unittest.TestCase):
    def test_what_is_handed_in_stays(self):
        text = [6, 5, 6, 7]
        share_of(text)
        bits = share_bits(text)
        self.assertEqual(text, [6, 5, 6, 7])
        kept = list(bits)
        read_share(bits, 0)
        self.assertEqual(bits, kept)
        counts = [(5, 1), (6, 2), (7, 1)]
        texts_with(counts)
        text_by_share(counts, 3)
        self.assertEqual(counts, [(5, 1), (6, 2), (7, 1)])

    def test_what_is_refused_stays(self):
        counts = [(5, 1), (6, 2)]
        for number in (-1, 3):
            with self.assertRaises(Broken):
                text_by_share(counts, number)
        self.assertEqual(counts, [(5, 1), (6, 2)])
        for bad in ([(5, 1), (5, 2)], [(5, 300), (6, 300)]):
            kept = list(bad)
            with self.assertRaises(Broken):
                texts_with(bad)
            self.assertEqual(bad, kept)
        bits = [0, 0, 1, 1]
        with self.assertRaises(Broken):
            read_share(bits, 0)
        self.assertEqual(bits, [0, 0, 1, 1])

    def test_what_is_told_is_the_askers_own(self):
        bits = share_bits([5, 6, 5])
        asked = [
            lambda: share_of([])[0],
            lambda: share_of([5])[0],
            lambda: share_of([6, 5])[0],
            lambda: text_by_share([], 0),
            lambda: text_by_share([(5, 1)], 0),
            lambda: text_by_share([(5, 1), (6, 1)], 1),
            lambda: share_bits([]),
            lambda: share_bits([5, 6]),
            lambda: read_share([1], 0)[0],
            lambda: read_share(bits, 0)[0],
        ]
        for ask in asked:
            first = ask()
            kept = list(first)
            second = ask()
            self.assertIsNot(first, second)
            first.append(3)
            first[0] = 9
            self.assertEqual(second, kept)
            self.assertEqual(ask(), kept)


if __name__ == "__main__":
    unittest.main()
