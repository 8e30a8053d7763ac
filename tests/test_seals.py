"""Promises 2, 3, 26, 27 and 28: seals."""

import itertools
import random
import unittest

from packhall.containers import pack
from packhall.errors import Broken, NoPlace
from packhall.seals import block_seal, clash_of, mix, paper_of, paper_shows, seal_of

FACTOR = 1000003
MODULUS = 2305843009213693951
GREAT = 10 ** 60 - 1


def plain_mix(row):
    """The mix as one sum of powers."""
    worths = [len(row)] + list(row)
    return sum(worth * FACTOR ** power for power, worth in enumerate(reversed(worths))) % MODULUS if row else 0


def plain_levels(blocks):
    levels = [[plain_mix([0, way] + bits) for way, bits in blocks]]
    while len(levels[-1]) > 1:
        level = levels[-1]
        made = []
        for k in range(0, len(level), 2):
            made.append(plain_mix([1, level[k], level[k + 1]]) if k + 1 < len(level) else level[k])
        levels.append(made)
    return levels


def plain_seal(size, total, blocks):
    top = plain_levels(blocks)[-1][0] if blocks else 0
    return plain_mix([2, size, total, len(blocks), top])


def plain_paper(blocks, first, last):
    paper = []
    known = list(range(first, last))
    for level in plain_levels(blocks):
        if len(level) == 1:
            break
        if known[0] % 2 == 1:
            paper.append(level[known[0] - 1])
        if known[-1] % 2 == 0 and known[-1] != len(level) - 1:
            paper.append(level[known[-1] + 1])
        known = sorted({number // 2 for number in known})
    return paper


def plain_paper_places(many, first):
    """At which side a paper of one block has a number, level by level."""
    sides = []
    while many > 1:
        if first % 2 == 1:
            sides.append("ahead")
        elif first != many - 1:
            sides.append("behind")
        first = first // 2
        many = (many + 1) // 2
    return sides


def container_of(many):
    """A container of so many blocks, no two alike."""
    return pack([(7 * k + 3) % 256 for k in range(many)], 1)


def numbers_of(container):
    return (container[0], container[1], len(container[2]))


def stretches(many):
    return [(first, last) for first in range(many) for last in range(first + 1, many + 1)]


def last_to_mix(row, mixed):
    """The number behind a row with which it has this mix."""
    return (mixed - plain_mix(row + [0])) % MODULUS


def rows_on_the_way(numbers, first, blocks, paper):
    """All rows that are mixed, written out by the document's words."""
    rows = [[0, way] + bits for way, bits in blocks]
    known = {first + k: plain_mix(row) for k, row in enumerate(rows)}
    many = numbers[2]
    left = list(paper)
    while many > 1:
        least, most = min(known), max(known)
        if least % 2 == 1:
            known[least - 1] = left.pop(0)
        if most % 2 == 0 and most != many - 1:
            known[most + 1] = left.pop(0)
        made = {}
        for k in sorted(known):
            if k % 2 == 0 and k + 1 in known:
                rows.append([1, known[k], known[k + 1]])
                made[k // 2] = plain_mix(rows[-1])
            elif k % 2 == 0:
                made[k // 2] = known[k]
        known = made
        many = (many + 1) // 2
    return rows + [[2, numbers[0], numbers[1], numbers[2], known[0]]]


class Mix(unittest.TestCase):
    def test_written_out(self):
        self.assertEqual(mix([]), 0)
        self.assertEqual(mix([0]), 1000003)
        self.assertEqual(mix([5]), 1000008)
        self.assertEqual(mix([-5]), 999998)
        self.assertEqual(mix([0, 0]), 2 * 1000003 ** 2)
        self.assertEqual(mix([1, 2]), 2 * 1000003 ** 2 + 1000003 + 2)
        self.assertEqual(mix([0, 0, 0]), (3 * 1000003 ** 3) % 2305843009213693951)

    def test_against_the_sentence(self):
        chance = random.Random(26)
        rows = [list(row) for many in range(4) for row in itertools.product([0, 1, 2, -1, 255], repeat=many)]
        rows += [[chance.randrange(-GREAT, GREAT) for k in range(many)] for many in range(40)]
        rows += [[MODULUS], [MODULUS - 1], [MODULUS + 1], [-MODULUS], [GREAT], [-GREAT], [0] * 300, [1] * 300]
        for row in rows:
            self.assertEqual(mix(row), plain_mix(row))

    def test_step_by_step(self):
        row = [3, 1, 4, 1, 5, 9, 2, 6]
        mixed = 8
        for number in row:
            mixed = (mixed * 1000003 + number) % 2305843009213693951
        self.assertEqual(mix(row), mixed)

    def test_below_the_modulus(self):
        for row in ([MODULUS - FACTOR], [-FACTOR - 1], [GREAT] * 5, [-GREAT] * 5):
            self.assertTrue(0 <= mix(row) < MODULUS)
        self.assertEqual(mix([MODULUS - FACTOR]), 0)
        self.assertEqual(mix([-FACTOR - 1]), MODULUS - 1)

    def test_the_length_is_mixed(self):
        self.assertNotEqual(mix([0]), mix([0, 0]))
        self.assertNotEqual(mix([0, 5]), mix([5]))


class Seals(unittest.TestCase):
    def test_seals_of_blocks(self):
        for block in ((0, []), (0, [0]), (0, [1]), (1, []), (5, [0, 1, 1, 0]), (GREAT, [1] * 50), (3, [2, 255, GREAT])):
            self.assertEqual(block_seal(block), plain_mix([0, block[0]] + block[1]))
        self.assertEqual(block_seal((0, [])), 2 * 1000003 ** 2)
        self.assertEqual(block_seal((4, [])), 2 * 1000003 ** 2 + 4)

    def test_of_no_blocks(self):
        for size in (1, 5, 64):
            self.assertEqual(seal_of((size, 0, [])), plain_mix([2, size, 0, 0, 0]))

    def test_of_one_block(self):
        container = pack([5, 6, 5], 4)
        self.assertEqual(seal_of(container), plain_mix([2, 4, 3, 1, block_seal(container[2][0])]))

    def test_of_two_and_three_blocks(self):
        container = container_of(3)
        a, b, c = [block_seal(block) for block in container[2]]
        self.assertEqual(seal_of(container_of(2)), mix([2, 1, 2, 2, mix([1, a, b])]))
        self.assertEqual(seal_of(container), mix([2, 1, 3, 3, mix([1, mix([1, a, b]), c])]))

    def test_of_five_and_six_blocks(self):
        container = container_of(6)
        a, b, c, d, e, f = [block_seal(block) for block in container[2]]
        four = mix([1, mix([1, a, b]), mix([1, c, d])])
        self.assertEqual(seal_of(container_of(5)), mix([2, 1, 5, 5, mix([1, four, e])]))
        self.assertEqual(seal_of(container), mix([2, 1, 6, 6, mix([1, four, mix([1, e, f])])]))

    def test_of_many_blocks(self):
        for many in list(range(40)) + [64, 65, 127, 128, 129, 399, 400]:
            container = container_of(many)
            self.assertEqual(seal_of(container), plain_seal(1, many, container[2]))

    def test_of_other_sizes(self):
        text = [k * k % 256 for k in range(100)]
        for size in (1, 3, 10, 33, 64):
            container = pack(text, size)
            self.assertEqual(seal_of(container), plain_seal(size, 100, container[2]))

    def test_of_blocks_that_are_not_readable(self):
        container = (4, 9, [(9, [1]), (0, []), (GREAT, [0, 1])])
        self.assertEqual(seal_of(container), plain_seal(4, 9, container[2]))

    def test_what_is_no_container(self):
        for thing in (None, (0, 0, []), (4, 5, [(0, [])]), (4, 1, [(-1, [])])):
            with self.assertRaises(Broken):
                seal_of(thing)
            for first, last in ((0, 1), (-1, 9)):
                with self.assertRaises(Broken):
                    paper_of(thing, first, last)

    def test_size_and_total_are_mixed(self):
        self.assertNotEqual(seal_of((4, 0, [])), seal_of((5, 0, [])))
        self.assertNotEqual(seal_of((4, 1, [(0, [])])), seal_of((4, 2, [(0, [])])))


class Papers(unittest.TestCase):
    def test_against_the_sentence(self):
        for many in range(1, 22):
            container = container_of(many)
            for first, last in stretches(many):
                with self.subTest(many=many, first=first, last=last):
                    self.assertEqual(paper_of(container, first, last), plain_paper(container[2], first, last))

    def test_written_out(self):
        container = container_of(5)
        a, b, c, d, e = [block_seal(block) for block in container[2]]
        ab, cd = mix([1, a, b]), mix([1, c, d])
        for first, last, paper in (
            (0, 1, [b, cd, e]), (1, 2, [a, cd, e]), (2, 3, [d, ab, e]), (3, 4, [c, ab, e]), (4, 5, [mix([1, ab, cd])]),
            (0, 2, [cd, e]), (1, 3, [a, d, e]), (2, 4, [ab, e]), (3, 5, [c, ab]), (0, 3, [d, e]), (1, 4, [a, e]),
            (2, 5, [ab]), (0, 4, [e]), (1, 5, [a]), (0, 5, []),
        ):
            self.assertEqual(paper_of(container, first, last), paper)

    def test_all_blocks_need_none(self):
        for many in range(1, 30):
            self.assertEqual(paper_of(container_of(many), 0, many), [])

    def test_many_blocks(self):
        container = container_of(400)
        for first, last in ((0, 1), (399, 400), (0, 400), (199, 201), (1, 399), (255, 256), (256, 257), (384, 385)):
            paper = paper_of(container, first, last)
            self.assertEqual(paper, plain_paper(container[2], first, last))
            self.assertTrue(paper_shows(seal_of(container), numbers_of(container), first, container[2][first:last], paper))

    def test_places_that_are_none(self):
        for many in (0, 1, 2, 5, 8):
            container = container_of(many)
            for first, last in ((0, 0), (many, many), (0, many + 1), (-1, 1), (-1, many), (many, many + 1), (1, 0), (1, 1),
                                (-1, -1), (-2, -1), (many + 1, many + 2), (0, GREAT), (-GREAT, 1), (GREAT, GREAT)):
                with self.subTest(many=many, first=first, last=last), self.assertRaises(NoPlace):
                    paper_of(container, first, last)


class PaperShows(unittest.TestCase):
    def shown(self, truth, seal, numbers, first, blocks, paper):
        told = paper_shows(seal, numbers, first, blocks, paper)
        if told is not truth:
            self.fail("told %r of %r" % (told, (seal, numbers, first, blocks, paper)))

    def each_stretch(self, most):
        for many in range(1, most + 1):
            container = container_of(many)
            for first, last in stretches(many):
                paper = paper_of(container, first, last)
                yield seal_of(container), numbers_of(container), first, container[2][first:last], paper

    def test_what_is_told_is_shown(self):
        for seal, numbers, first, blocks, paper in self.each_stretch(21):
            self.shown(True, seal, numbers, first, blocks, paper)

    def test_other_sizes(self):
        text = [k * k % 256 for k in range(100)]
        for size in (3, 10, 33, 64):
            container = pack(text, size)
            for first, last in stretches(min(len(container[2]), 12)):
                paper = paper_of(container, first, last)
                self.shown(True, seal_of(container), numbers_of(container), first, container[2][first:last], paper)

    def test_blocks_that_are_not_readable(self):
        container = (4, 9, [(9, [1]), (0, []), (GREAT, [0, 1])])
        for first, last in stretches(3):
            paper = paper_of(container, first, last)
            self.shown(True, seal_of(container), (4, 9, 3), first, container[2][first:last], paper)

    def test_other_seals(self):
        for seal, numbers, first, blocks, paper in self.each_stretch(9):
            for other in (seal + 1, seal - 1, seal + MODULUS, seal - MODULUS, -seal, 0, -1, GREAT):
                self.shown(False, other, numbers, first, blocks, paper)

    def test_other_blocks(self):
        for seal, numbers, first, blocks, paper in self.each_stretch(11):
            for k, (way, bits) in enumerate(blocks):
                changes = [(way + 1, bits), (way, bits + [0]), (way, bits + [1]), (way, bits[:-1]), (way, []), (way, bits[::-1]),
                           (way, [1 - bits[0]] + bits[1:]), (way, bits[:-1] + [1 - bits[-1]]), (GREAT, bits)]
                for block in changes:
                    if block != (way, bits):
                        self.shown(False, seal, numbers, first, blocks[:k] + [block] + blocks[k + 1:], paper)

    def test_blocks_in_another_order(self):
        shown = 0
        for seal, numbers, first, blocks, paper in self.each_stretch(11):
            for others in (blocks[::-1], blocks[1:] + blocks[:1], blocks[:1] + blocks[:0:-1]):
                truth = plain_mix(rows_on_the_way(numbers, first, others, paper)[-1]) == seal
                self.shown(truth, seal, numbers, first, others, paper)
                shown += truth and others != blocks
        # The second and third of four can change places: what the seal then shows is a clash (28).
        self.assertGreater(shown, 0)

    def test_a_block_more_or_less(self):
        for seal, numbers, first, blocks, paper in self.each_stretch(11):
            self.shown(False, seal, numbers, first, blocks[1:], paper)
            self.shown(False, seal, numbers, first, blocks[:-1], paper)
            self.shown(False, seal, numbers, first, blocks + blocks[-1:], paper)
            self.shown(False, seal, numbers, first, blocks + [(0, [])], paper)

    def test_other_papers(self):
        for seal, numbers, first, blocks, paper in self.each_stretch(11):
            for k, number in enumerate(paper):
                for other in (number + 1, number - 1, 0, 1, MODULUS - 1):
                    self.shown(False, seal, numbers, first, blocks, paper[:k] + [other] + paper[k + 1:])
            truth = plain_mix(rows_on_the_way(numbers, first, blocks, paper[::-1])[-1]) == seal
            self.shown(truth, seal, numbers, first, blocks, paper[::-1])

    def test_papers_beyond_the_modulus(self):
        for seal, numbers, first, blocks, paper in self.each_stretch(11):
            for k, number in enumerate(paper):
                # Mixed, these come to the same.
                for other in (number + MODULUS, number - MODULUS, number + 5 * MODULUS):
                    self.shown(False, seal, numbers, first, blocks, paper[:k] + [other] + paper[k + 1:])

    def test_papers_at_the_edges(self):
        block = (0, [1])
        for number in (0, 1, MODULUS - 2, MODULUS - 1):
            seal = mix([2, 1, 2, 2, mix([1, block_seal(block), number])])
            self.shown(True, seal, (1, 2, 2), 0, [block], [number])
            self.shown(False, seal, (1, 2, 2), 0, [block], [number + MODULUS])
            self.shown(False, seal, (1, 2, 2), 0, [block], [number - MODULUS])

    def test_numbers_lacking_or_left_over(self):
        for seal, numbers, first, blocks, paper in self.each_stretch(11):
            self.shown(False, seal, numbers, first, blocks, paper + [0])
            self.shown(False, seal, numbers, first, blocks, paper + [5])
            self.shown(False, seal, numbers, first, blocks, [0] + paper)
            for k in range(len(paper)):
                self.shown(False, seal, numbers, first, blocks, paper[:k] + paper[k + 1:])
                self.shown(False, seal, numbers, first, blocks, paper[:k] + [paper[k]] + paper[k:])
            if paper:
                self.shown(False, seal, numbers, first, blocks, [])

    def test_other_numbers(self):
        for seal, numbers, first, blocks, paper in self.each_stretch(11):
            size, total, many = numbers
            for other in (
                (size + 1, total, many), (size - 1, total, many), (-size, total, many), (size, total + 1, many),
                (size, total - 1, many), (total + 7, size, many), (size, total, many + 1), (size, total, many - 1),
                (size, total, 2 * many), (size, total, 0), (size, total, -many), (size, total, GREAT), (size, GREAT, many),
            ):
                self.shown(False, seal, other, first, blocks, paper)

    def test_size_and_total_are_only_mixed(self):
        blocks = [(0, [1]), (1, [0])]
        for size, total in ((0, 0), (-5, 3), (65, 401), (GREAT, -GREAT), (1, 1)):
            seal = mix([2, size, total, 2, mix([1, block_seal(blocks[0]), block_seal(blocks[1])])])
            self.shown(True, seal, (size, total, 2), 0, blocks, [])

    def test_another_first_one(self):
        for seal, numbers, first, blocks, paper in self.each_stretch(11):
            for other in range(-2, numbers[2] + 3):
                self.shown(other == first, seal, numbers, other, blocks, paper)
            for other in (GREAT, -GREAT, first - numbers[2]):
                self.shown(False, seal, numbers, other, blocks, paper)

    def test_no_blocks(self):
        for many in range(6):
            seal = seal_of(container_of(many))
            for first in range(-1, many + 2):
                for paper in ([], [0], [5], [block_seal(block) for block in container_of(many)[2]]):
                    self.shown(False, seal, (1, many, many), first, [], paper)
        self.shown(False, mix([2, 1, 1, 1, 5]), (1, 1, 1), 0, [], [5])
        self.shown(False, mix([2, 1, 1, 1, 0]), (1, 1, 1), 0, [], [])

    def test_beyond_how_many(self):
        blocks = container_of(4)[2]
        for many, first in ((3, 0), (4, 1), (4, 4), (5, 2), (0, 0), (-1, 0), (-4, -4), (4, -1), (GREAT, GREAT)):
            top = mix([1, mix([1, block_seal(blocks[0]), block_seal(blocks[1])]),
                       mix([1, block_seal(blocks[2]), block_seal(blocks[3])])])
            for paper in ([], [0], [0, 0], [0, 0, 0]):
                self.shown(False, mix([2, 1, 4, many, top]), (1, 4, many), first, blocks, paper)

    def test_ways_below_0(self):
        for way in (-1, -2, -GREAT):
            block = (way, [1, 0])
            self.shown(False, mix([2, 1, 1, 1, block_seal(block)]), (1, 1, 1), 0, [block], [])
            other = (0, [1])
            top = mix([1, block_seal(other), block_seal(block)])
            self.shown(False, mix([2, 1, 2, 2, top]), (1, 2, 2), 0, [other, block], [])
            self.shown(False, mix([2, 1, 2, 2, top]), (1, 2, 2), 1, [block], [block_seal(other)])
            self.shown(True, mix([2, 1, 2, 2, top]), (1, 2, 2), 0, [other], [block_seal(block)])

    def test_bits_below_0(self):
        for bits in ([-1], [0, -1], [-1, 0], [1, 0, -GREAT, 1]):
            block = (0, bits)
            self.shown(False, mix([2, 1, 1, 1, block_seal(block)]), (1, 1, 1), 0, [block], [])
            top = mix([1, block_seal(block), 7])
            self.shown(False, mix([2, 1, 2, 2, top]), (1, 2, 2), 0, [block], [7])

    def test_great_bits_and_ways(self):
        for block in ((0, [2, 3, GREAT]), (GREAT, []), (MODULUS, [MODULUS]), (6, [255])):
            self.shown(True, mix([2, 1, 1, 1, plain_mix([0, block[0]] + block[1])]), (1, 1, 1), 0, [block], [])

    def test_how_many_may_be_great(self):
        many = 2 ** 190
        block = (0, [1])
        for first in (0, many - 1):
            paper = [5 + k for k in range(190)]
            top = block_seal(block)
            for number in paper:
                top = mix([1, top, number]) if first == 0 else mix([1, number, top])
            self.shown(True, mix([2, 1, 1, many, top]), (1, 1, many), first, [block], paper)
            self.shown(False, mix([2, 1, 1, many, top]), (1, 1, many), first, [block], paper[1:])
            self.shown(False, mix([2, 1, 1, many, top]), (1, 1, many), first, [block], paper + [0])

    def test_what_are_no_blocks_and_no_seals(self):
        container = container_of(3)
        seal = seal_of(container)
        paper = paper_of(container, 0, 1)
        for block in (None, 5, (), (0,), [0, [1]], (0, [1], 2), (0, None), (0, (1,)), (None, [1]), (0, [None]), (0, ["1"]),
                      (True, [1]), (0, [True])):
            self.shown(False, seal, (1, 3, 3), 0, [block], paper)
        for number in (None, "5", True, [5], (5,)):
            self.shown(False, seal, (1, 3, 3), 0, container[2][:1], paper[:1] + [number])


class Clashes(unittest.TestCase):
    def a_clash(self, numbers, first, blocks, paper, others, other):
        rows = rows_on_the_way(numbers, first, blocks, paper)
        other_rows = rows_on_the_way(numbers, first, others, other)
        seal = plain_mix(rows[-1])
        self.assertTrue(paper_shows(seal, numbers, first, blocks, paper))
        self.assertTrue(paper_shows(seal, numbers, first, others, other))
        told = clash_of(numbers, first, blocks, paper, others, other)
        self.assertIsInstance(told, tuple)
        one, two = told
        self.assertIsInstance(one, list)
        self.assertIsInstance(two, list)
        self.assertNotEqual(one, two)
        self.assertEqual(plain_mix(one), plain_mix(two))
        self.assertEqual(mix(one), mix(two))
        self.assertIn(one, rows)
        self.assertIn(two, other_rows)
        self.assertEqual(clash_of(numbers, first, blocks, paper, others, other), told)
        turned = clash_of(numbers, first, others, other, blocks, paper)
        self.assertIn(turned[0], other_rows)
        self.assertIn(turned[1], rows)
        self.assertNotEqual(turned[0], turned[1])
        self.assertEqual(plain_mix(turned[0]), plain_mix(turned[1]))
        return told

    def none(self, numbers, first, blocks, paper, others, other):
        self.assertIsNone(clash_of(numbers, first, blocks, paper, others, other))
        self.assertIsNone(clash_of(numbers, first, others, other, blocks, paper))

    def test_unlike_blocks_of_one_seal(self):
        for block, other in (
            ((0, [1]), (0, [1 + MODULUS])),
            ((0, [1]), (MODULUS, [1])),
            ((3, [0, 1, 0]), (3, [0, 1, 7 * MODULUS])),
            ((0, [0, FACTOR]), (0, [1, 0])),
            ((0, [0, 0, 1]), (1, [last_to_mix([0, 1], plain_mix([0, 0, 0, 0, 1]))])),
        ):
            self.assertEqual(block_seal(block), block_seal(other))
            told = self.a_clash((1, 1, 1), 0, [block], [], [other], [])
            self.assertEqual(told, ([0, block[0]] + block[1], [0, other[0]] + other[1]))

    def test_in_each_stretch(self):
        for many in range(1, 12):
            container = container_of(many)
            for first, last in stretches(many):
                blocks = container[2][first:last]
                paper = paper_of(container, first, last)
                for k, (way, bits) in enumerate(blocks):
                    others = blocks[:k] + [(way, bits[:-1] + [bits[-1] + MODULUS])] + blocks[k + 1:]
                    self.a_clash(numbers_of(container), first, blocks, paper, others, paper)

    def test_two_unlike_blocks(self):
        blocks = [(0, [k]) for k in range(4)]
        others = [(0, [0]), (0, [1 + MODULUS]), (MODULUS, [2]), (0, [3])]
        self.a_clash((1, 4, 4), 0, blocks, [], others, [])

    def test_unlike_pairs_of_one_mix(self):
        block, other = (0, [1]), (0, [0, 1])
        for number in (0, 5, MODULUS - 1):
            mixed = plain_mix([1, block_seal(block), number])
            fitting = last_to_mix([1, block_seal(other)], mixed)
            told = self.a_clash((1, 2, 2), 0, [block], [number], [other], [fitting])
            self.assertEqual(told, ([1, block_seal(block), number], [1, block_seal(other), fitting]))

    def test_unlike_pairs_higher_up(self):
        block, other = (0, [1]), (0, [0, 1])
        found = 0
        for many, first in ((3, 0), (3, 1), (4, 0), (4, 1), (5, 2), (7, 4), (8, 6), (20, 10), (2 ** 60, 16)):
            numbers = (1, 1, many)
            paper = [11 + k for k in range(len(plain_paper_places(many, first)))]
            rows = rows_on_the_way(numbers, first, [block], paper)
            other_rows = rows_on_the_way(numbers, first, [other], paper)
            for k in range(len(paper)):
                pair, other_pair = rows[1 + k], other_rows[1 + k]
                if pair[2] == paper[k]:
                    # Behind the known ones stands the paper's own number, and it can be made to fit.
                    found += 1
                    fitting = last_to_mix(other_pair[:2], plain_mix(pair))
                    fitted = paper[:k] + [fitting] + paper[k + 1:]
                    told = self.a_clash(numbers, first, [block], paper, [other], fitted)
                    self.assertEqual(told, (pair, [1, other_pair[1], fitting]))
        self.assertGreater(found, 60)

    def test_blocks_that_change_places(self):
        for many in (4, 5, 8, 11):
            container = container_of(many)
            blocks = list(container[2])
            others = [blocks[0], blocks[2], blocks[1]] + blocks[3:]
            self.a_clash(numbers_of(container), 0, blocks, [], others, [])
            paper = paper_of(container, 1, 3)
            self.a_clash(numbers_of(container), 1, blocks[1:3], paper, others[1:3], paper)

    def test_a_block_left_over(self):
        # The third of three is joined only at the second level, with what the paper tells.
        block, other = (0, [1]), (5, [0, 1])
        paper = [9]
        row = [1, 9, block_seal(block)]
        # The second number stands behind, so the first one of the pair is sought that makes up for it.
        worth = (row[1] * FACTOR + row[2] - block_seal(other)) * pow(FACTOR, -1, MODULUS) % MODULUS
        self.assertEqual(plain_mix([1, worth, block_seal(other)]), plain_mix(row))
        told = self.a_clash((1, 3, 3), 2, [block], paper, [other], [worth])
        self.assertEqual(told, (row, [1, worth, block_seal(other)]))
        self.none((1, 3, 3), 2, [block], paper, [other], [10])

    def test_the_same_blocks(self):
        for many in (1, 2, 5):
            container = container_of(many)
            for first, last in stretches(many):
                paper = paper_of(container, first, last)
                blocks = container[2][first:last]
                self.none(numbers_of(container), first, blocks, paper, list(blocks), list(paper))

    def test_the_same_blocks_with_unlike_papers(self):
        block = (0, [1])
        paper = [5, 6]
        rows = rows_on_the_way((1, 4, 4), 0, [block], paper)
        changed = plain_mix([1, block_seal(block), 7])
        other = [7, last_to_mix([1, changed], plain_mix(rows[2]))]
        seal = plain_mix(rows[-1])
        self.assertTrue(paper_shows(seal, (1, 4, 4), 0, [block], paper))
        self.assertTrue(paper_shows(seal, (1, 4, 4), 0, [block], other))
        self.none((1, 4, 4), 0, [block], paper, [block], other)

    def test_one_that_does_not_show(self):
        block, other = (0, [1]), (0, [1 + MODULUS])
        self.a_clash((1, 2, 2), 0, [block], [5], [other], [5])
        for first in (-1, 2, GREAT, -GREAT):
            self.none((1, 2, 2), first, [block], [5], [other], [5])
        for wrong in ([], [5, 5], [5 + MODULUS], [-1], [5 - MODULUS]):
            self.none((1, 2, 2), 0, [block], [5], [other], wrong)
            self.none((1, 2, 2), 0, [block], wrong, [other], wrong)
        for wrong in ((-MODULUS, [1]), (0, [1 - MODULUS])):
            self.assertEqual(block_seal(wrong), block_seal(block))
            self.none((1, 2, 2), 0, [block], [5], [wrong], [5])
        for many in (0, -1):
            self.none((1, 2, many), 0, [block], [], [other], [])

    def test_unlike_seals(self):
        for many in range(1, 8):
            container = container_of(many)
            for first, last in stretches(many):
                paper = paper_of(container, first, last)
                blocks = container[2][first:last]
                others = [(9, [])] + blocks[1:]
                self.none(numbers_of(container), first, blocks, paper, others, paper)
        # One of the blocks is of one seal with its like, but the other one leads elsewhere.
        blocks = [(0, [1]), (0, [2])]
        self.none((1, 2, 2), 0, blocks, [], [(0, [1 + MODULUS]), (0, [3])], [])

    def test_unlike_many_blocks(self):
        blocks = [(0, [1]), (0, [2])]
        seal = block_seal(blocks[1])
        self.assertTrue(paper_shows(plain_seal(1, 2, blocks), (1, 2, 2), 0, blocks, []))
        self.assertTrue(paper_shows(plain_seal(1, 2, blocks), (1, 2, 2), 0, blocks[:1], [seal]))
        self.none((1, 2, 2), 0, blocks, [], blocks[:1], [seal])
        self.none((1, 2, 2), 0, blocks, [], [(0, [1 + MODULUS])], [seal])
        self.none((1, 2, 2), 0, blocks, [], [], [])
        self.none((1, 2, 2), 0, [], [], [], [])


class HandedInAndTold(unittest.TestCase):
    def test_what_is_handed_in_stays(self):
        row = [3, 1, 4]
        mix(row)
        self.assertEqual(row, [3, 1, 4])
        container = container_of(7)
        kept = container_of(7)
        block_seal(container[2][0])
        seal = seal_of(container)
        for first, last in stretches(7):
            paper = paper_of(container, first, last)
            kept_paper = list(paper)
            blocks = container[2][first:last]
            paper_shows(seal, (1, 7, 7), first, blocks, paper)
            paper_shows(seal, (1, 7, 7), first, blocks, paper + [1])
            self.assertEqual(paper, kept_paper)
            self.assertEqual(blocks, kept[2][first:last])
        self.assertEqual(container, kept)
        for first, last in ((-1, 2), (3, 3), (2, 8)):
            with self.assertRaises(NoPlace):
                paper_of(container, first, last)
        self.assertEqual(container, kept)

    def test_what_is_handed_in_for_a_clash_stays(self):
        for number in (1, 1 + MODULUS):
            blocks, paper, others, other = [(0, [1])], [5], [(0, [number])], [5]
            clash_of((1, 2, 2), 0, blocks, paper, others, other)
            self.assertEqual((blocks, paper, others, other), ([(0, [1])], [5], [(0, [number])], [5]))

    def test_what_is_told_is_the_askers_own(self):
        container = container_of(5)
        blocks, others = [(0, [1])], [(0, [1 + MODULUS])]
        asked = [
            lambda: paper_of(container, 0, 1),
            lambda: paper_of(container, 0, 5),
            lambda: clash_of((1, 1, 1), 0, blocks, [], others, [])[0],
            lambda: clash_of((1, 1, 1), 0, blocks, [], others, [])[1],
        ]
        for ask in asked:
            first = ask()
            kept = list(first)
            second = ask()
            self.assertIsNot(first, second)
            first.append(3)
            first[0] = 9
            self.assertEqual(second, kept)
            self.assertEqual(ask(), kept)
        self.assertEqual((blocks, others), ([(0, [1])], [(0, [1 + MODULUS])]))

    def test_asked_again(self):
        container = container_of(9)
        for k in range(3):
            self.assertEqual(seal_of(container), seal_of(container_of(9)))
            self.assertEqual(paper_of(container, 2, 4), paper_of(container_of(9), 2, 4))


if __name__ == "__main__":
    unittest.main()
