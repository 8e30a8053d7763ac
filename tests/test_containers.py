"""Promises 2, 3, 24 and 25: containers."""

import itertools
import random
import unittest

from packhall.bits import row_bits
from packhall.containers import container_bits, pack, read_container, sign_at, stretch_of, text_of
from packhall.errors import Broken, NoNumber, NoPlace
from packhall.ways import best_way, packed_by

GREAT = 10 ** 60 - 1
BANANA = [98, 97, 110, 97, 110, 97]


def random_text(many, seed):
    chance = random.Random(seed)
    words = [[chance.randrange(256) for k in range(chance.randrange(1, 7))] for j in range(5)]
    text = []
    while len(text) < many:
        text += chance.choice(words)
    return text[:many]


TEXTS = [
    [], [0], [255], [5, 5], [5, 6], BANANA, [7] * 63, [7] * 64, [7] * 65, list(range(100)), list(range(256)),
    random_text(127, 1), random_text(128, 2), random_text(129, 3), random_text(399, 4), random_text(400, 5), [0] * 400,
]


def parts_of(text, size):
    parts = []
    while len(text) > size * len(parts):
        parts.append(text[size * len(parts):size * len(parts) + size])
    return parts


def packed_blocks(text, size, way):
    """A container of the text, all blocks by one way."""
    return (size, len(text), [(way, packed_by(way, part)) for part in parts_of(text, size)])


def copied(container):
    return (container[0], container[1], [(way, list(bits)) for way, bits in container[2]])


# What leads to no text of a block's length, by way and bits.
UNREADABLE = [
    (0, []), (0, [1]), (0, [0] * 7), (0, [0] * 9), (0, [0] * 800), (1, []), (1, [1]), (2, [1, 1]), (3, [1]), (4, [1]),
    (5, [1]), (1, [0] * 30), (2, [0] * 30), (3, [0] * 30), (4, [0] * 30), (5, [0] * 30), (6, []), (6, [0] * 8),
    (7, [1]), (GREAT, [0] * 8), (GREAT, []), (0, [2] * 8), (0, [-1] + [0] * 7), (0, [None]), (0, ["0"] * 8),
    (0, [True] * 8), (1, [[], ()]), (5, [7]), (2, ["a", None]),
]

NO_CONTAINERS = [
    None, 0, 5, -1, True, "container", "", [], (), {}, [4, 0, []], (4,), (4, 0), (4, 0, [], []), (0, 0, []), (-1, 0, []),
    (65, 0, []), (GREAT, 0, []), (4, -1, []), (4, 401, [(0, [])] * 101), (4, GREAT, []), (4, 0, ()), (4, 0, None),
    (4, 0, {}), (4, 0, ""), (True, 0, []), (4, False, []), (4, True, [(0, [0] * 8)]), ("4", 0, []), (4, "0", []),
    (None, 0, []), (4, None, []), ([4], 0, []), (4, 0, [(0, [])]), (4, 1, []), (4, 4, []), (4, 5, [(0, [0] * 8)]),
    (4, 4, [(0, [0] * 32), (0, [])]), (4, 1, [None]), (4, 1, [0]), (4, 1, [()]), (4, 1, [(0,)]), (4, 1, [[0, []]]),
    (4, 1, [(0, [0] * 8, 0)]), (4, 1, [(-1, [0] * 8)]), (4, 1, [(-GREAT, [])]), (4, 1, [(True, [0] * 8)]),
    (4, 1, [(False, [0] * 8)]), (4, 1, [(None, [0] * 8)]), (4, 1, [("0", [0] * 8)]), (4, 1, [(0, None)]),
    (4, 1, [(0, ())]), (4, 1, [(0, (0,) * 8)]), (4, 1, [(0, "00000000")]), (4, 1, [(0, 0)]), (4, 1, [(0, {})]),
    (4, 5, [(0, [0] * 32), None]), (4, 5, [(0, [0] * 32), (-1, [0] * 8)]), (4, 5, [(-1, [0] * 32), (0, [0] * 8)]),
    (4, 5, [(0, [0] * 32), (0, "00000000")]), (4, 5, ((0, [0] * 32), (0, [0] * 8))), (1, 3, [(0, [0] * 8)] * 2),
    (1, 3, [(0, [0] * 8)] * 4), (64, 64, [(0, [])] * 2), (64, 65, [(0, [])]), (64, 400, [(0, [])] * 6),
    (64, 400, [(0, [])] * 8), (1, 400, [(0, [])] * 399), (1, 400, [(0, [])] * 401),
]


class Pack(unittest.TestCase):
    def test_blocks_by_their_best_ways(self):
        for text in TEXTS:
            for size in (1, 2, 3, 7, 16, 63, 64):
                blocks = [best_way(part) for part in parts_of(text, size)]
                with self.subTest(size=size, text=text[:20]):
                    self.assertEqual(pack(text, size), (size, len(text), blocks))

    def test_each_size(self):
        text = random_text(130, 6)
        for size in range(1, 65):
            container = pack(text, size)
            self.assertEqual(container, (size, 130, [best_way(part) for part in parts_of(text, size)]))
            self.assertEqual(text_of(container), text)

    def test_size_and_length_alike_or_off_by_one(self):
        for many in (1, 2, 5, 31, 63, 64):
            text = random_text(many, many)
            for size in (many - 1, many, many + 1):
                if 1 <= size <= 64:
                    container = pack(text, size)
                    self.assertEqual(len(container[2]), 2 if size < many else 1)
                    self.assertEqual(text_of(container), text)

    def test_no_signs(self):
        for size in (1, 2, 63, 64):
            self.assertEqual(pack([], size), (size, 0, []))

    def test_kinds(self):
        container = pack(BANANA, 4)
        self.assertIsInstance(container, tuple)
        self.assertIsInstance(container[2], list)
        for block in container[2]:
            self.assertIsInstance(block, tuple)
            self.assertIsInstance(block[1], list)

    def test_other_sizes(self):
        for size in (0, 65, -1, 66, -64, 400, GREAT, -GREAT):
            for text in ([], [5], BANANA, [0] * 400, [0] * 401):
                with self.subTest(size=size), self.assertRaises(NoNumber):
                    pack(text, size)

    def test_more_signs(self):
        self.assertEqual(pack([0] * 400, 64)[1], 400)
        for many in (401, 402, 500):
            for size in (1, 20, 64, 0, 65):
                with self.subTest(many=many, size=size), self.assertRaises(NoNumber):
                    pack([0] * many, size)


class Told(unittest.TestCase):
    def test_texts(self):
        for text in TEXTS:
            for size in (1, 2, 3, 7, 16, 63, 64):
                self.assertEqual(text_of(pack(text, size)), text)

    def test_signs(self):
        for text in TEXTS:
            for size in (1, 3, 16, 64):
                container = pack(text, size)
                for at in range(0, len(text), 1 if len(text) < 140 else 13):
                    self.assertEqual(sign_at(container, at), text[at])
                if text:
                    self.assertEqual(sign_at(container, len(text) - 1), text[-1])

    def test_stretches(self):
        for text in ([], [5], BANANA, random_text(13, 7), random_text(16, 8)):
            for size in (1, 2, 4, 5, 13, 16, 17, 64):
                container = pack(text, size)
                for first in range(len(text) + 1):
                    for last in range(first, len(text) + 1):
                        self.assertEqual(stretch_of(container, first, last), text[first:last])

    def test_long_stretches(self):
        for text in (random_text(399, 9), random_text(400, 10)):
            many = len(text)
            for size in (1, 7, 50, 64):
                container = pack(text, size)
                for first, last in ((0, many), (0, 1), (many - 1, many), (many, many), (0, 0), (63, 65), (64, 128),
                                    (1, many - 1), (100, 100), (49, 51), (50, 100), (383, 385)):
                    self.assertEqual(stretch_of(container, first, last), text[first:last])

    def test_blocks_by_any_way(self):
        for text in (BANANA, random_text(30, 11), [7] * 20):
            for size in (1, 4, 9, 30, 64):
                for way in range(6):
                    container = packed_blocks(text, size, way)
                    self.assertEqual(text_of(container), text)
                    self.assertEqual([sign_at(container, at) for at in range(len(text))], text)
                    self.assertEqual(stretch_of(container, 1, len(text) - 1), text[1:-1])

    def test_blocks_by_unlike_ways(self):
        text = random_text(24, 12)
        blocks = [(k % 6, packed_by(k % 6, part)) for k, part in enumerate(parts_of(text, 3))]
        self.assertEqual(text_of((3, 24, blocks)), text)
        self.assertEqual(stretch_of((3, 24, blocks), 2, 23), text[2:23])

    def test_signs_at_places_that_are_none(self):
        for text in ([], [5], BANANA, [7] * 64, [7] * 400):
            for size in (1, 4, 64):
                container = pack(text, size)
                for at in (-1, -2, -len(text), -len(text) - 1, len(text), len(text) + 1, size * 400, GREAT, -GREAT):
                    if not 0 <= at < len(text):
                        with self.subTest(size=size, at=at), self.assertRaises(NoPlace):
                            sign_at(container, at)

    def test_stretches_that_are_none(self):
        for text in ([], [5], BANANA, [7] * 64):
            for size in (1, 4, 64):
                container = pack(text, size)
                many = len(text)
                for first, last in ((-1, 0), (-1, many), (0, many + 1), (many, many + 1), (many + 1, many + 1), (1, 0),
                                    (many + 1, many), (-1, -1), (-GREAT, many), (0, GREAT), (GREAT, GREAT), (many, -1)):
                    with self.subTest(size=size, first=first, last=last), self.assertRaises(NoPlace):
                        stretch_of(container, first, last)


class NoContainers(unittest.TestCase):
    def refused(self, ask, thing):
        with self.subTest(thing=str(thing)[:60]), self.assertRaises(Broken):
            ask(thing)

    def test_refused_by_all(self):
        for thing in NO_CONTAINERS:
            self.refused(text_of, thing)
            self.refused(container_bits, thing)
            self.refused(lambda container: sign_at(container, 0), thing)
            self.refused(lambda container: stretch_of(container, 0, 0), thing)

    def test_ahead_of_places_that_it_has_not(self):
        for thing in NO_CONTAINERS:
            for at in (-1, 400, 500, GREAT, -GREAT):
                self.refused(lambda container: sign_at(container, at), thing)
                self.refused(lambda container: stretch_of(container, at, 0), thing)
                self.refused(lambda container: stretch_of(container, 0, at), thing)
                self.refused(lambda container: stretch_of(container, at, at), thing)

    def test_a_block_too_many_or_too_few(self):
        for text in TEXTS:
            for size in (1, 4, 63, 64):
                blocks = pack(text, size)[2]
                self.refused(text_of, (size, len(text), blocks + [(0, [])]))
                self.refused(container_bits, (size, len(text), blocks + [(0, [])]))
                if blocks:
                    self.refused(text_of, (size, len(text), blocks[1:]))
                    self.refused(container_bits, (size, len(text), blocks[:-1]))

    def test_other_numbers(self):
        size, total, blocks = pack(random_text(12, 13), 4)
        for other in (9, 10, 11):
            # By its numbers one, but its last block leads to another number of signs.
            self.refused(text_of, (size, other, blocks))
            self.assertEqual(stretch_of((size, other, blocks), 0, 8), random_text(12, 13)[:8])
        for other in (0, 7, 8, 13, 14):
            self.refused(lambda container: stretch_of(container, 0, 0), (size, other, blocks))
        for other in (1, 2, 3, 6, 7, 12, 64):
            self.refused(lambda container: stretch_of(container, 0, 0), (other, total, blocks))


class Touched(unittest.TestCase):
    def told_or_broken(self, ask, told, broken):
        if broken:
            with self.assertRaises(Broken):
                ask()
        else:
            self.assertEqual(ask(), told)

    def look_at(self, text, size, bad, block):
        container = pack(text, size)
        container[2][bad] = block
        begin = bad * size
        behind = min(begin + size, len(text))
        with self.assertRaises(Broken):
            text_of(container)
        for at in range(len(text)):
            self.told_or_broken(lambda: sign_at(container, at), text[at], begin <= at < behind)
        for first in range(len(text) + 1):
            for last in range(first, len(text) + 1):
                touched = first < behind and last > begin and first < last
                self.told_or_broken(lambda: stretch_of(container, first, last), text[first:last], touched)
        for at in (-1, len(text)):
            with self.assertRaises(NoPlace):
                sign_at(container, at)
            with self.assertRaises(NoPlace):
                stretch_of(container, at, -1)

    def test_one_block_that_is_not_readable(self):
        text = random_text(10, 14)
        for size in (1, 3, 4, 5, 9, 10, 64):
            for bad in range(len(parts_of(text, size))):
                for block in UNREADABLE if size == 4 else [(0, [1]), (6, []), (5, [7])]:
                    with self.subTest(size=size, bad=bad, block=block):
                        self.look_at(text, size, bad, block)

    def test_a_block_of_another_length(self):
        text = random_text(10, 15)
        for bad, many in ((0, 3), (0, 5), (1, 2), (2, 1), (2, 3), (2, 4)):
            for way in range(6):
                block = (way, packed_by(way, random_text(many, 16)))
                with self.subTest(bad=bad, many=many, way=way):
                    self.look_at(text, 4, bad, block)

    def test_all_blocks_but_one(self):
        text = random_text(20, 17)
        for good in range(5):
            container = (4, 20, [(9, [1])] * 5)
            container[2][good] = best_way(text[4 * good:4 * good + 4])
            self.assertEqual(stretch_of(container, 4 * good, 4 * good + 4), text[4 * good:4 * good + 4])
            self.assertEqual(sign_at(container, 4 * good + 3), text[4 * good + 3])
            self.assertEqual(stretch_of(container, 4 * good + 4, 4 * good + 4), [])

    def test_an_empty_stretch_touches_no_block(self):
        for at in range(21):
            self.assertEqual(stretch_of((4, 20, [(9, [1])] * 5), at, at), [])


def plain_container(bits):
    """What bits are a container's, read by the document's words alone: a container or None."""
    letters = "".join(map(str, bits))
    at = 0
    numbers = []
    left = 1
    while left > 0:
        zeros = len(letters[at:]) - len(letters[at:].lstrip("0"))
        behind = at + 2 * zeros + 1
        if behind > len(letters):
            return None
        number = int(letters[at + zeros:behind], 2) - 1
        if at == 0:
            left = number
        else:
            numbers.append(number)
            left -= 1
        at = behind
    if len(numbers) < 2 or len(numbers) % 2 == 1:
        return None
    size, total = numbers[:2]
    if not 1 <= size <= 64 or not 0 <= total <= 400 or len(numbers) // 2 - 1 != -(-total // size):
        return None
    blocks = []
    for way, many in zip(numbers[2::2], numbers[3::2]):
        if at + many > len(bits):
            return None
        blocks.append((way, bits[at:at + many]))
        at += many
    return (size, total, blocks) if at == len(bits) else None


class Bits(unittest.TestCase):
    def refused(self, bits):
        with self.subTest(bits=bits[:40]), self.assertRaises(Broken):
            read_container(bits)

    def as_plain(self, bits):
        try:
            told = read_container(bits)
        except Broken:
            told = None
        if told != plain_container(bits):
            self.fail("told %r: %r" % (told, bits))
        return told

    def test_written_out(self):
        self.assertEqual(container_bits((1, 0, [])), [0, 1, 1, 0, 1, 0, 1])
        # A row of four numbers: 2, 1, and of the block its way 0 and its eight bits.
        bits = [0, 0, 1, 0, 1] + [0, 1, 1] + [0, 1, 0] + [1] + [0, 0, 0, 1, 0, 0, 1] + [0, 0, 0, 0, 0, 1, 0, 1]
        self.assertEqual(container_bits((2, 1, [(0, [0, 0, 0, 0, 0, 1, 0, 1])])), bits)
        self.assertEqual(read_container(bits), (2, 1, [(0, [0, 0, 0, 0, 0, 1, 0, 1])]))

    def test_against_the_sentence(self):
        for text in TEXTS:
            for size in (1, 4, 63, 64):
                container = pack(text, size)
                numbers = [size, len(text)]
                behind = []
                for way, bits in container[2]:
                    numbers += [way, len(bits)]
                    behind += bits
                self.assertEqual(container_bits(container), row_bits(numbers) + behind)

    def test_there_and_back(self):
        for text in TEXTS:
            for size in (1, 2, 7, 16, 63, 64):
                container = pack(text, size)
                self.assertEqual(read_container(container_bits(container)), container)

    def test_blocks_that_are_not_readable(self):
        for block in UNREADABLE:
            for container in ((4, 1, [block]), (4, 7, [block, (0, [0] * 24)]), (1, 3, [(0, [0] * 8), block, block])):
                if all(bit in (0, 1) for bit in block[1]):
                    self.assertEqual(read_container(container_bits(container)), container)
                    self.assertEqual(container_bits(read_container(container_bits(container))), container_bits(container))

    def test_bits_of_any_list(self):
        bits = container_bits((4, 5, [(0, [7, -1]), (3, [None])]))
        self.assertEqual(bits, row_bits([4, 5, 0, 2, 3, 1]) + [7, -1, None])

    def test_great_ways(self):
        container = (64, 65, [(GREAT, [1, 0]), (0, [])])
        self.assertEqual(read_container(container_bits(container)), container)

    def test_cut_off(self):
        for text in ([], [5], BANANA, random_text(20, 18)):
            for size in (1, 4, 64):
                bits = container_bits(pack(text, size))
                for end in range(len(bits)):
                    self.refused(bits[:end])

    def test_more_behind(self):
        for text in TEXTS:
            bits = container_bits(pack(text, 16))
            for more in ([0], [1], [0, 0], [1, 1, 1], [0] * 8, [1] * 8):
                self.refused(bits + more)

    def test_rows_that_are_of_no_container(self):
        for numbers in ([], [4], [4, 0, 0], [0, 0], [65, 0], [GREAT, 0], [4, 401], [4, 1], [4, 4], [4, 0, 0, 0],
                        [4, 4, 0, 0, 0, 0], [4, 5, 0, 0], [4, 4, 0], [4, 5, 0, 0, 0], [0, 1, 0, 0], [0, 4, 0, 0],
                        [65, 65, 0, 0], [4, GREAT, 0, 0], [1, 2, 0, 0, 0, 0, 0, 0], [64, 64, 0, 0, 0, 0],
                        [4, 401] + [0, 0] * 101, [64, 400] + [0, 0] * 6, [64, 400] + [0, 0] * 8):
            self.refused(row_bits(numbers))
            self.refused(row_bits(numbers) + [0])
            self.refused(row_bits(numbers) + [0] * 8)

    def test_rows_at_the_edges(self):
        for numbers in ([1, 0], [64, 0], [64, 400] + [0, 0] * 7, [1, 400] + [5, 0] * 400, [64, 64, 9, 0], [64, 65] + [9, 0] * 2):
            blocks = [(way, []) for way in numbers[2::2]]
            self.assertEqual(read_container(row_bits(numbers)), (numbers[0], numbers[1], blocks))

    def test_blocks_longer_than_the_bits(self):
        for many in (9, 10, 100, GREAT):
            self.refused(row_bits([4, 1, 0, many]) + [0] * 8)
            self.refused(row_bits([4, 5, 0, 8, 0, many - 8]) + [0] * 8)
            self.refused(row_bits([4, 5, 0, many, 0, 8]) + [0] * 8)
        for many in (0, 1, 7):
            self.refused(row_bits([4, 1, 0, many]) + [0] * 8)
        self.assertEqual(read_container(row_bits([4, 5, 0, 8, 0, 0]) + [0] * 8), (4, 5, [(0, [0] * 8), (0, [])]))

    def test_any_short_bits(self):
        read = 0
        for many in range(17):
            for bits in itertools.product([0, 1], repeat=many):
                told = self.as_plain(list(bits))
                if told is not None:
                    read += 1
                    self.assertEqual(container_bits(told), list(bits))
        self.assertGreater(read, 50)

    def test_one_turned(self):
        for text in ([], [5], BANANA, random_text(12, 19)):
            for size in (1, 4, 64):
                bits = container_bits(pack(text, size))
                for at in range(len(bits)):
                    self.as_plain(bits[:at] + [1 - bits[at]] + bits[at + 1:])
                    self.as_plain(bits[:at] + bits[at + 1:])
                    self.as_plain(bits[:at] + [0] + bits[at:])

    def test_any_rows(self):
        chance = random.Random(20)
        read = 0
        for k in range(8000):
            numbers = [chance.randrange(6) for j in range(chance.randrange(9))]
            behind = [chance.randrange(2) for j in range(chance.randrange(6))]
            read += self.as_plain(row_bits(numbers) + behind) is not None
        self.assertGreater(read, 50)


class HandedInAndTold(unittest.TestCase):
    def test_what_is_handed_in_stays(self):
        text = list(BANANA)
        container = pack(text, 4)
        self.assertEqual(text, BANANA)
        kept = copied(container)
        text_of(container)
        sign_at(container, 3)
        stretch_of(container, 1, 5)
        bits = container_bits(container)
        self.assertEqual(container, kept)
        kept_bits = list(bits)
        read_container(bits)
        self.assertEqual(bits, kept_bits)

    def test_what_is_refused_stays(self):
        text = [5] * 401
        for size in (0, 4, 65):
            with self.assertRaises(NoNumber):
                pack(text, size)
        self.assertEqual(text, [5] * 401)
        for container in ((4, 6, [(0, [1]), (9, [0, 1])]), (4, 9, [(0, [1]), (9, [0, 1])])):
            kept = copied(container)
            for ask in (text_of, lambda c: sign_at(c, 1), lambda c: stretch_of(c, 1, 6)):
                with self.assertRaises(Broken):
                    ask(container)
            self.assertEqual(container, kept)
        bits = [0, 1, 1, 0, 1, 0, 1, 1]
        with self.assertRaises(Broken):
            read_container(bits)
        self.assertEqual(bits, [0, 1, 1, 0, 1, 0, 1, 1])

    def test_what_is_told_is_the_askers_own(self):
        container = pack(BANANA, 4)
        bits = container_bits(container)
        asked = [
            lambda: pack([], 4)[2],
            lambda: pack(BANANA, 4)[2],
            lambda: pack(BANANA, 4)[2][0][1],
            lambda: pack([5] * 8, 4)[2][1][1],
            lambda: text_of(container),
            lambda: text_of(pack([], 4)),
            lambda: stretch_of(container, 0, 4),
            lambda: stretch_of(container, 2, 2),
            lambda: container_bits(container),
            lambda: read_container(bits)[2],
            lambda: read_container(bits)[2][1][1],
        ]
        for ask in asked:
            first = ask()
            kept = list(first)
            second = ask()
            self.assertIsNot(first, second)
            first.append(3)
            first[0] = 9
            self.assertEqual(second, kept)
            self.assertEqual(ask(), kept)
        self.assertEqual(text_of(container), BANANA)

    def test_no_two_told_are_one(self):
        for container in (pack([5] * 12, 4), read_container(container_bits(pack([5] * 12, 4)))):
            lists = [bits for way, bits in container[2]]
            self.assertEqual(len({id(bits) for bits in lists}), 3)
            lists[0].append(9)
            self.assertEqual(lists[1], lists[2])
            self.assertNotEqual(lists[0], lists[1])


if __name__ == "__main__":
    unittest.main()
