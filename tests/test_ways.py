"""Promises 2, 3, 22 and 23: ways."""

import fractions
import itertools
import math
import random
import unittest

from packhall.bits import ending_bits, low_bits, row_bits
from packhall.codes import coded, counts_of, least_lengths, words_by
from packhall.copies import copies_of
from packhall.errors import Broken, NoName
from packhall.fronts import fronts_of, runs_of
from packhall.grammars import grammar_of
from packhall.shares import share_of, text_by_share, texts_with
from packhall.turns import turned_text
from packhall.ways import best_way, packed_by, unpacked_by

GREAT = 10 ** 60 - 1
WAYS = range(6)
NO_WAYS = (-1, 6, 7, -2, -6, -7, 12, 256, GREAT, -GREAT)


def all_texts(signs, most):
    for many in range(1, most + 1):
        for text in itertools.product(signs, repeat=many):
            yield list(text)


def all_bits(most):
    for many in range(most + 1):
        for bits in itertools.product([0, 1], repeat=many):
            yield list(bits)


def random_texts():
    chance = random.Random(22)
    texts = []
    for many in (1, 2, 3, 5, 8, 13, 40, 64, 150, 399, 400):
        for signs in ([0, 1], [7, 8, 9], [0, 255], list(range(40)), list(range(256))):
            texts.append([chance.choice(signs) for k in range(many)])
    return texts


LONG = [
    [0] * 400,
    [255] * 399,
    [1, 2] * 200,
    [1, 2, 3] * 133,
    [1] * 200 + [2] * 200,
    list(range(256)),
    list(range(255, -1, -1)),
    list(range(256)) + list(range(144)),
    [k * k % 256 for k in range(400)],
    [97, 98, 97, 99] * 100,
]
SHORT = [
    [0], [255], [5], [5, 5], [5, 6], [6, 5], [98, 97, 110, 97, 110, 97], [7] * 9, [7] * 64, [1, 2, 1, 2, 1, 2, 1, 2],
    [97, 98, 97, 99, 97], [0, 255, 0, 255, 255], list(range(64)), [3, 3, 3, 4, 4, 4, 3, 3, 3, 4, 4, 4],
]


def bits_by(letters):
    return [int(letter) for letter in letters if letter != " "]


# What the sentences of 22 say, written out of what the stages beneath tell.


def said_0(text):
    return [bit for sign in text for bit in low_bits(sign, 8)]


def said_1(text):
    lengths = least_lengths(counts_of(text))
    words = dict(words_by(lengths))
    return row_bits([part for pair in lengths for part in pair]) + [bit for sign in text for bit in words[sign]]


def said_2(text):
    row, hole = turned_text(text)
    runs = runs_of(fronts_of(row))
    return ending_bits(hole + 1) + row_bits([part for run in runs for part in run])


def said_3(text):
    numbers = []
    for thing in copies_of(text):
        numbers += [0, thing[1]] if thing[0] == "sign" else [thing[1], thing[2]]
    return row_bits(numbers)


def said_4(text):
    rules, row = grammar_of(text)
    return row_bits([len(rules)] + [symbol for rule in rules for symbol in rule] + row)


def said_5(text):
    counts, number = share_of(text)
    enough = 0
    while 2 ** enough < texts_with(counts):
        enough += 1
    return row_bits([part for pair in counts for part in pair]) + low_bits(number, enough)


SAID = [said_0, said_1, said_2, said_3, said_4, said_5]


# A plain reader of each way, by the document's words alone: the text, or None.


class Unread(Exception):
    pass


def ask(truth):
    if not truth:
        raise Unread()


def take_number(bits, at):
    zeros = 0
    while at + zeros < len(bits) and bits[at + zeros] == 0:
        zeros += 1
    behind = at + 2 * zeros + 1
    ask(behind <= len(bits))
    return int("".join(map(str, bits[at + zeros:behind])), 2), behind


def take_row(bits, at):
    many, at = take_number(bits, at)
    numbers = []
    for k in range(many - 1):
        number, at = take_number(bits, at)
        numbers.append(number - 1)
    return numbers, at


def in_twos(numbers):
    ask(len(numbers) % 2 == 0)
    return list(zip(numbers[0::2], numbers[1::2]))


def rising_signs(pairs):
    signs = [sign for sign, number in pairs]
    return signs == sorted(set(signs)) and all(sign <= 255 for sign in signs)


def plain_0(bits, many):
    ask(len(bits) == 8 * many)
    return [int("".join(map(str, bits[8 * k:8 * k + 8])), 2) for k in range(many)], len(bits)


def plain_words(lengths):
    ask(rising_signs(lengths) and all(1 <= length <= 256 for sign, length in lengths))
    ask(sum(fractions.Fraction(1, 2 ** length) for sign, length in lengths) <= 1)
    words = {}
    worth = fractions.Fraction(0)
    for length, sign in sorted((length, sign) for sign, length in lengths):
        words[format(int(worth * 2 ** length), "0%db" % length)] = sign
        worth += fractions.Fraction(1, 2 ** length)
    return words


def plain_1(bits, many):
    numbers, at = take_row(bits, 0)
    words = plain_words(in_twos(numbers))
    text = []
    word = ""
    while len(text) < many:
        ask(at < len(bits))
        word += str(bits[at])
        at += 1
        if word in words:
            text.append(words[word])
            word = ""
    return text, at


def plain_turned(text):
    places = sorted(range(len(text) + 1), key=lambda place: text[place:])
    return [text[place - 1] for place in places if place > 0], places.index(0)


def plain_2(bits, many):
    hole, at = take_number(bits, 0)
    numbers, at = take_row(bits, at)
    runs = in_twos(numbers)
    ask(all(times >= 1 for number, times in runs) and sum(times for number, times in runs) <= 400)
    ask(all(one[0] != two[0] for one, two in zip(runs, runs[1:])))
    ask(all(number <= 255 for number, times in runs))
    signs = list(range(256))
    row = []
    for number, times in runs:
        for k in range(times):
            signs.insert(0, signs.pop(number))
            row.append(signs[0])
    hole -= 1
    # A text has as many signs as its turned text: asked here, as the table of a long row takes its time.
    ask(hole <= len(row) and len(row) == many)
    column = row[:hole] + [-1] + row[hole:]
    table = [[] for sign in column]
    for k in range(len(column)):
        table = sorted([sign] + rest for sign, rest in zip(column, table))
    text = table[hole][:-1]
    ask(-1 not in text and plain_turned(text) == (row, hole))
    return text, at


def plain_3(bits, many):
    numbers, at = take_row(bits, 0)
    text = []
    for back, times in in_twos(numbers):
        if back == 0:
            ask(times <= 255)
            text.append(times)
        else:
            ask(1 <= times <= 400 and back <= len(text))
            for k in range(times):
                text.append(text[-back])
    ask(len(text) <= 400)
    return text, at


def plain_4(bits, many):
    numbers, at = take_row(bits, 0)
    ask(len(numbers) >= 1)
    rules = numbers[0]
    ask(len(numbers) >= 1 + 2 * rules)
    ask(all(numbers[1 + k] < 256 + k // 2 for k in range(2 * rules)))
    row = numbers[1 + 2 * rules:]
    ask(all(symbol < 256 + rules for symbol in row))
    while any(symbol > 255 for symbol in row):
        ask(len(row) <= 400)
        k = next(k for k, symbol in enumerate(row) if symbol > 255)
        rule = row[k] - 256
        row[k:k + 1] = [numbers[1 + 2 * rule], numbers[2 + 2 * rule]]
    ask(len(row) <= 400)
    return row, at


def orders(signs):
    many = math.factorial(len(signs))
    for sign in set(signs):
        many //= math.factorial(signs.count(sign))
    return many


def plain_5(bits, many):
    numbers, at = take_row(bits, 0)
    counts = in_twos(numbers)
    ask(rising_signs(counts) and all(times >= 1 for sign, times in counts))
    ask(sum(times for sign, times in counts) <= 400)
    left = [sign for sign, times in counts for k in range(times)]
    enough = len(bin(orders(left) - 1)) - 2 if orders(left) > 1 else 0
    ask(at + enough <= len(bits))
    number = int("0" + "".join(map(str, bits[at:at + enough])), 2)
    ask(number < orders(left))
    text = []
    while left:
        for sign in sorted(set(left)):
            rest = list(left)
            rest.remove(sign)
            if number < orders(rest):
                break
            number -= orders(rest)
        text.append(sign)
        left = rest
    return text, at + enough


PLAIN = [plain_0, plain_1, plain_2, plain_3, plain_4, plain_5]


def plain_unpacked(way, bits, many):
    try:
        text, behind = PLAIN[way](bits, many)
        ask(behind == len(bits) and len(text) == many)
    except Unread:
        return None
    return text


def unpacked_or_none(way, bits, many):
    try:
        return unpacked_by(way, bits, many)
    except Broken:
        return None


class PackedBy(unittest.TestCase):
    def test_written_out(self):
        written = {
            (0, (5,)): "00000101",
            (1, (5,)): "011 00110 010  0",
            (2, (5,)): "010  011 00110 010",
            (3, (5,)): "011 1 00110",
            (4, (5,)): "011 1 00110",
            (5, (5,)): "011 00110 010",
            (0, (5, 255, 0)): "00000101 11111111 00000000",
            (1, (0, 1, 0)): "00101 1 010 010 010  0 1 0",
            (2, (1, 0, 1)): "00100  00111 010 010 1 010 010 010",
            (3, (1, 1, 1)): "00101 1 010 010 011",
            (4, (1, 1, 1)): "00101 1 010 010 010",
            (4, (1, 2, 1, 2)): "00110 010 010 011 00000000100000001 00000000100000001",
            (5, (1, 0, 1)): "00101 1 010 010 011  01",
        }
        for (way, text), letters in written.items():
            with self.subTest(way=way, text=text):
                self.assertEqual(packed_by(way, list(text)), bits_by(letters))

    def test_against_the_sentences(self):
        texts = SHORT + LONG + random_texts() + list(all_texts([0, 1, 255], 4)) + list(all_texts([7, 8], 7))
        texts += [[sign] for sign in range(256)]
        for text in texts:
            for way in WAYS:
                with self.subTest(way=way, text=text[:20]):
                    self.assertEqual(packed_by(way, text), SAID[way](text))

    def test_bits_alone(self):
        for text in SHORT + LONG:
            for way in WAYS:
                self.assertEqual(set(map(type, packed_by(way, text))), {int})
                self.assertLessEqual(set(packed_by(way, text)), {0, 1})

    def test_other_ways(self):
        for way in NO_WAYS:
            for text in ([5], [5, 6], [0] * 400, list(range(256))):
                with self.subTest(way=way), self.assertRaises(NoName):
                    packed_by(way, text)


class UnpackedBy(unittest.TestCase):
    def refused(self, way, bits, many):
        with self.subTest(way=way, bits=bits[:40], many=many), self.assertRaises(Broken):
            unpacked_by(way, bits, many)

    def as_plain(self, way, bits, many):
        told = unpacked_or_none(way, bits, many)
        if told != plain_unpacked(way, bits, many):
            self.fail("way %d, %d signs, told %r: %r" % (way, many, told, bits))
        return told

    def test_there_and_back(self):
        for text in SHORT + LONG + random_texts() + list(all_texts([0, 1, 255], 5)) + list(all_texts([7, 8], 8)):
            for way in WAYS:
                self.assertEqual(unpacked_by(way, packed_by(way, text), len(text)), text)

    def test_each_sign_alone(self):
        for sign in range(256):
            for way in WAYS:
                self.assertEqual(unpacked_by(way, packed_by(way, [sign]), 1), [sign])

    def test_another_number_of_signs(self):
        for text in SHORT + LONG:
            for way in WAYS:
                bits = packed_by(way, text)
                for many in (len(text) - 1, len(text) + 1, 0, -1, -len(text), 2 * len(text), GREAT, -GREAT):
                    self.refused(way, bits, many)

    def test_no_bits_at_all(self):
        for way in WAYS:
            for many in (1, 2, 400, GREAT):
                self.refused(way, [], many)

    def test_cut_off(self):
        for text in SHORT:
            for way in WAYS:
                bits = packed_by(way, text)
                for end in range(len(bits)):
                    self.refused(way, bits[:end], len(text))

    def test_cut_off_long(self):
        for text in LONG:
            for way in WAYS:
                bits = packed_by(way, text)
                for end in (0, 1, 2, 9, len(bits) // 2, len(bits) - 8, len(bits) - 2, len(bits) - 1):
                    self.refused(way, bits[:end], len(text))

    def test_more_behind(self):
        for text in SHORT + LONG:
            for way in WAYS:
                bits = packed_by(way, text)
                for more in ([0], [1], [0, 0], [1, 1], [0] * 7, [1] * 7, [0] * 8, [1] * 8, [0] * 9):
                    self.refused(way, bits + more, len(text))

    def test_one_turned(self):
        for text in [text for text in SHORT if len(text) <= 20] + [list(range(100, 116)), [7] * 30]:
            for way in WAYS:
                bits = packed_by(way, text)
                for at in range(len(bits)):
                    turned = bits[:at] + [1 - bits[at]] + bits[at + 1:]
                    for many in (len(text), len(text) + 1, len(text) - 1):
                        self.as_plain(way, turned, many)

    def test_one_out_one_in(self):
        for text in SHORT[:-3]:
            for way in WAYS:
                bits = packed_by(way, text)
                for at in range(len(bits)):
                    self.as_plain(way, bits[:at] + bits[at + 1:], len(text))
                    self.as_plain(way, bits[:at] + [0] + bits[at:], len(text))
                    self.as_plain(way, bits[:at] + [1] + bits[at:], len(text))

    def test_any_short_bits(self):
        read = [0] * 6
        for bits in all_bits(12):
            for way in WAYS:
                for many in (1, 2, 3):
                    read[way] += self.as_plain(way, bits, many) is not None
        for way in WAYS:
            self.assertGreater(read[way], 0, way)

    def test_any_rows(self):
        chance = random.Random(23)
        read = [0] * 6
        for k in range(4000):
            numbers = [chance.choice([0, 0, 1, 1, 1, 2, 2, 3, 4]) for j in range(chance.randrange(9))]
            numbers = [number if chance.random() < 0.9 else chance.choice([254, 255, 256, 257, 258, 399, 400])
                       for number in numbers]
            behind = [chance.randrange(2) for j in range(chance.choice([0, 0, 0, 1, 2, 3]))]
            for way in WAYS:
                head = ending_bits(chance.randrange(1, 8)) if way == 2 else []
                for many in range(1, 7):
                    read[way] += self.as_plain(way, head + row_bits(numbers) + behind, many) is not None
        for way in range(1, 6):
            self.assertGreater(read[way], 20, way)

    def test_any_bits(self):
        chance = random.Random(24)
        for k in range(600):
            bits = [chance.randrange(2) for j in range(chance.randrange(300))]
            for way in WAYS:
                for many in (1, 5, len(bits) // 8, 40):
                    self.as_plain(way, bits, many)

    def test_signs_alone(self):
        self.assertEqual(unpacked_by(0, [0] * 8 + [1] * 8, 2), [0, 255])
        for many in (0, 1, 2, 7, 9, 15, 17, 24):
            self.refused(0, [0] * many, 2)

    def test_other_lengths(self):
        texts = [[5], [5, 5], [5, 6, 5], [0, 255, 7, 7, 7, 7, 0]]
        for text in texts:
            signs = sorted(set(text))
            for lengths in (
                [(sign, 8) for sign in range(256)],
                [(sign, 3 + k) for k, sign in enumerate(signs)],
                [(sign, 256) for sign in signs],
                [(sign, 4) for sign in sorted(set(signs + [1, 2, 100, 200, 254]))],
                [(sign, 1 + k) for k, sign in enumerate(signs)] + ([(255, 256)] if 255 not in signs else []),
            ):
                bits = row_bits([part for pair in lengths for part in pair]) + coded(text, lengths)
                self.assertEqual(unpacked_by(1, bits, len(text)), text)
                self.refused(1, bits[:-1], len(text))
                self.refused(1, bits + [0], len(text))

    def test_lengths_that_cannot_be_words(self):
        for numbers in ([5], [5, 1, 6], [5, 0], [5, 257], [5, GREAT], [256, 1], [GREAT, 1], [6, 1, 5, 1], [5, 1, 5, 1],
                        [5, 1, 6, 1, 7, 1], [5, 1, 6, 2, 7, 2, 8, 256], [5, 1, 256, 1], [5, 1, 6, 0]):
            for behind in ([], [0], [0, 0], [1, 1], [0] * 256):
                for many in (1, 2, len(behind)):
                    self.refused(1, row_bits(numbers) + behind, many)

    def test_words_that_stand_nowhere(self):
        head = row_bits([5, 1, 6, 3])
        self.assertEqual(unpacked_by(1, head + [0, 1, 0, 0], 2), [5, 6])
        for behind in ([1, 0, 1], [1, 1, 0], [1, 1, 1], [0, 1, 1, 1], [1, 0], [1]):
            for many in (1, 2):
                self.refused(1, head + behind, many)
        self.refused(1, row_bits([]), 1)
        self.refused(1, row_bits([]) + [0], 1)

    def test_holes(self):
        read = 0
        for row in all_texts([0, 1, 2], 5):
            runs = [part for run in runs_of(fronts_of(row)) for part in run]
            for hole in range(len(row) + 3):
                bits = ending_bits(hole + 1) + row_bits(runs)
                texts = [text for text in itertools.permutations(row) if plain_turned(list(text)) == (row, hole)]
                if texts:
                    read += 1
                    self.assertEqual(unpacked_by(2, bits, len(row)), list(texts[0]))
                else:
                    self.refused(2, bits, len(row))
        self.assertEqual(read, sum(3 ** many for many in range(1, 6)))

    def test_runs_that_are_none(self):
        bits = packed_by(2, [5, 5, 5])
        self.assertEqual(bits, ending_bits(4) + row_bits([5, 1, 0, 2]))
        for numbers in ([5, 1, 0, 1, 0, 1], [5, 1, 0, 2, 0, 0], [5, 0, 5, 1, 0, 2], [256, 1, 0, 2], [GREAT, 1, 0, 2],
                        [5, 1, 0, GREAT], [5, 1, 0, 400], [5, 1, 0, 2, 3], [5, 1, 0], [5]):
            for hole in range(1, 6):
                for many in (1, 3, 400, 401):
                    self.refused(2, ending_bits(hole) + row_bits(numbers), many)
        self.refused(2, ending_bits(GREAT) + row_bits([5, 1, 0, 2]), 3)

    def test_other_tellings(self):
        for numbers, text in (
            ([0, 5, 0, 5, 0, 5], [5, 5, 5]),
            ([0, 5, 1, 1, 1, 1], [5, 5, 5]),
            ([0, 5, 1, 1, 2, 1, 0, 5], [5, 5, 5, 5]),
            ([0, 5, 0, 6, 2, 3, 0, 5, 6, 6, 0, 255], [5, 6, 5, 6, 5, 5] + [5, 6, 5, 6, 5, 5] + [255]),
            ([0, 0, 1, 399], [0] * 400),
            ([0, 255, 0, 0, 2, 398], [255, 0] * 200),
        ):
            self.assertEqual(unpacked_by(3, row_bits(numbers), len(text)), text)
            self.refused(3, row_bits(numbers) + [1], len(text))
            self.refused(3, row_bits(numbers), len(text) + 1)

    def test_tellings_that_are_none(self):
        for numbers in ([0, 256], [0, GREAT], [1, 1], [0, 5, 2, 1], [0, 5, 1, 0], [0, 5, 1, GREAT], [0, 5, GREAT, 1],
                        [0, 5, 1, 400], [0], [0, 5, 1], [0, 5, 0, 6, 3, 1], [1, 0]):
            for many in (1, 2, 3, 400, 401, GREAT):
                self.refused(3, row_bits(numbers), many)

    def test_other_grammars(self):
        for numbers, text in (
            ([0, 5, 5, 5, 5], [5] * 4),
            ([1, 7, 8, 5], [5]),
            ([1, 5, 6, 256], [5, 6]),
            ([2, 5, 6, 256, 256, 257, 256, 7], [5, 6, 5, 6, 5, 6, 7]),
            ([3, 1, 1, 256, 2, 257, 257, 255, 258, 0], [255, 1, 1, 2, 1, 1, 2, 0]),
            ([8, 0, 1] + [part for k in range(7) for part in (256 + k, 256 + k)] + [263], [0, 1] * 128),
            ([40, 0, 0] + [part for k in range(39) for part in (256 + k, 256 + k)] + [9, 256], [9, 0, 0]),
        ):
            self.assertEqual(unpacked_by(4, row_bits(numbers), len(text)), text)
            self.refused(4, row_bits(numbers) + [0], len(text))
            self.refused(4, row_bits(numbers), len(text) - 1)

    def test_grammars_that_are_none(self):
        doubled = [9, 0, 1] + [part for k in range(8) for part in (256 + k, 256 + k)]
        for numbers in ([], [1], [1, 5], [2, 5, 5, 5], [GREAT, 5, 5], [0, 256], [0, GREAT], [1, 256, 5, 5], [1, 5, 256, 5],
                        [1, 5, 6, 257], [2, 257, 5, 5, 5, 256], [1, 5, GREAT, 256], doubled + [264], doubled + [263, 263]):
            for many in (1, 2, 3, 256, 400, 401, 512):
                self.refused(4, row_bits(numbers), many)

    def test_fewer_rules_than_told(self):
        # The row of such a grammar would have no symbols, yet this is not a grammar so written.
        for numbers in ([], [1], [1, 5], [2], [2, 5, 5], [2, 5, 5, 5], [3, 5, 5, 5, 5], [GREAT], [GREAT, 5, 5]):
            for many in (0, 1, 2):
                self.refused(4, row_bits(numbers), many)

    def test_no_signs(self):
        for way in WAYS:
            self.assertEqual(unpacked_by(way, packed_by(way, []), 0), [])
            self.refused(way, packed_by(way, []), 1)
            self.refused(way, packed_by(way, []) + [1], 0)

    def test_other_shares(self):
        for counts in ([(5, 1)], [(5, 3)], [(0, 2), (255, 1)], [(1, 2), (2, 2)], [(1, 1), (2, 1), (3, 1), (4, 1)]):
            head = row_bits([part for pair in counts for part in pair])
            many = sum(times for sign, times in counts)
            texts = sorted(set(itertools.permutations([sign for sign, times in counts for k in range(times)])))
            enough = 0
            while 2 ** enough < len(texts):
                enough += 1
            for number in range(2 ** enough):
                bits = head + low_bits(number, enough)
                if number < len(texts):
                    self.assertEqual(unpacked_by(5, bits, many), list(texts[number]))
                else:
                    self.refused(5, bits, many)
                self.refused(5, bits + [0], many)
                self.refused(5, bits, many + 1)

    def test_counts_that_are_none(self):
        for numbers in ([5], [5, 0], [5, 401], [5, GREAT], [256, 1], [5, 1, 5, 1], [6, 1, 5, 1], [5, 1, 6], [5, 399, 6, 2]):
            for behind in ([], [0], [0] * 9):
                for many in (1, 2, 400, 401):
                    self.refused(5, row_bits(numbers) + behind, many)

    def test_great_shares(self):
        counts = [(3, 130), (9, 140), (200, 130)]
        texts = texts_with(counts)
        enough = (texts - 1).bit_length()
        head = row_bits([3, 130, 9, 140, 200, 130])
        for number in (0, 1, texts // 3, texts - 1):
            self.assertEqual(unpacked_by(5, head + low_bits(number, enough), 400), text_by_share(counts, number))
        self.refused(5, head + low_bits(texts, enough), 400)

    def test_other_ways(self):
        for way in NO_WAYS:
            for bits in ([], [0] * 8, [1, 1, 1], packed_by(1, [5, 6]), packed_by(5, [5, 6]), [0] * 40):
                for many in (0, 1, 2, 5, -1, 400, GREAT):
                    with self.subTest(way=way, bits=bits, many=many), self.assertRaises(NoName):
                        unpacked_by(way, bits, many)

    def test_lists_that_are_no_bits(self):
        # A block's bits may be any list (24), and what leads to no text is Broken.
        for way in WAYS:
            bits = packed_by(way, [1, 0, 1])
            for at in range(len(bits)):
                for thing in (2, -1, 256, True, False, None, "1", [1], (0,)):
                    self.refused(way, bits[:at] + [thing] + bits[at + 1:], 3)


class BestWay(unittest.TestCase):
    def plain_best(self, text):
        best = 0
        for way in range(1, 6):
            if len(SAID[way](text)) < len(SAID[best](text)):
                best = way
        return best, SAID[best](text)

    def test_fewest_bits(self):
        found = {}
        for text in SHORT + LONG + random_texts() + list(all_texts([0, 1, 255], 5)) + list(all_texts([7, 8], 8)):
            told = best_way(text)
            self.assertEqual(told, self.plain_best(text))
            self.assertIsInstance(told, tuple)
            self.assertEqual(unpacked_by(told[0], told[1], len(text)), text)
            found[told[0]] = True
        self.assertEqual(sorted(found), [0, 1, 2, 3, 4, 5])

    def test_each_way_is_the_best_of_some_text(self):
        texts = [[197], [30, 28, 30, 28, 28], [1, 2], [0], [0, 1], [8, 8]]
        for way in WAYS:
            self.assertEqual(best_way(texts[way]), (way, SAID[way](texts[way])))
            self.assertEqual(best_way(texts[way]), self.plain_best(texts[way]))

    def test_of_alike_ones_the_least(self):
        alike = 0
        for text in list(all_texts([0, 1, 2], 6)) + [[sign] * many for sign in (0, 1, 90) for many in range(1, 12)]:
            sizes = [len(SAID[way](text)) for way in WAYS]
            if sizes.count(min(sizes)) > 1:
                alike += 1
                self.assertEqual(best_way(text)[0], sizes.index(min(sizes)))
        self.assertGreater(alike, 20)


class HandedInAndTold(unittest.TestCase):
    def test_what_is_handed_in_stays(self):
        for text in SHORT:
            kept = list(text)
            best_way(text)
            for way in WAYS:
                bits = packed_by(way, text)
                self.assertEqual(text, kept)
                kept_bits = list(bits)
                unpacked_by(way, bits, len(text))
                self.assertEqual(bits, kept_bits)

    def test_what_is_refused_stays(self):
        text = [5, 6, 5]
        with self.assertRaises(NoName):
            packed_by(6, text)
        self.assertEqual(text, [5, 6, 5])
        for way in range(-1, 7):
            for bits in ([0, 1, 1, 1], [1], [0] * 9, packed_by(3, [5, 6]) + [1]):
                kept = list(bits)
                with self.assertRaises((Broken, NoName)):
                    unpacked_by(way, bits, 3)
                self.assertEqual(bits, kept)

    def test_what_is_told_is_the_askers_own(self):
        text = [5, 6, 5]
        packings = [packed_by(way, text) for way in WAYS]
        asked = [lambda: best_way(text)[1], lambda: best_way([1, 1, 1, 1])[1]]
        asked += [lambda way=way: packed_by(way, text) for way in WAYS]
        asked += [lambda way=way: unpacked_by(way, packings[way], 3) for way in WAYS]
        for question in asked:
            first = question()
            kept = list(first)
            second = question()
            self.assertIsNot(first, second)
            first.append(3)
            first[0] = 9
            self.assertEqual(second, kept)
            self.assertEqual(question(), kept)
        self.assertEqual(text, [5, 6, 5])


if __name__ == "__main__":
    unittest.main()
