"""Promises 2, 3, 6, 7, 8 and 9: counts, joinings, least lengths, words and texts packed by them."""

import itertools
import random
import unittest
from fractions import Fraction

from packhall.codes import coded, counts_of, decoded, joinings_of, joinings_show, least_lengths, words_by
from packhall.errors import Broken, NoCode


def counts_with(*times):
    return [(3 * place + 1, count) for place, count in enumerate(times)]


def lengths_with(*lengths):
    return [(3 * place + 1, length) for place, length in enumerate(lengths)]


def cost(counts, lengths):
    return sum(count * length for (sign, count), (other, length) in zip(counts, lengths, strict=True))


def halves(lengths):
    return sum((Fraction(1, 2 ** length) for length in lengths), Fraction(0))


def least_cost(counts):
    """The least sum over every row of lengths that can be words', tried one by one."""
    most = max(len(counts), 1)
    times = [count for sign, count in counts]
    tried = itertools.product(range(1, most + 1), repeat=len(counts))
    return min(sum(a * b for a, b in zip(times, lengths)) for lengths in tried if halves(lengths) <= 1)


def fibonacci_counts(many):
    times = [1, 1]
    while len(times) < many:
        times.append(times[-1] + times[-2])
    return [(sign, times[sign]) for sign in range(many)]


def plain_joinings(counts, joinings):
    """Whether these are joinings, straight by the words of the document; and the depths by them."""
    many = len(counts)
    if len(joinings) != many - 1:
        return None
    weights = [count for sign, count in counts]
    within = [[place] for place in range(many)]
    joined = []
    depths = [0] * many
    for k, (i, j) in enumerate(joinings):
        if not 0 <= i < j < many + k or i in joined or j in joined:
            return None
        for thing in range(many + k):
            if thing not in joined and thing != i and thing != j:
                if weights[thing] < weights[i] or weights[thing] < weights[j]:
                    return None
        weights.append(weights[i] + weights[j])
        within.append(within[i] + within[j])
        joined += [i, j]
        for place in within[-1]:
            depths[place] += 1
    return [(counts[place][0], depths[place]) for place in range(many)]


MANY_COUNTS = [
    counts_with(1, 1),
    counts_with(1, 2),
    counts_with(9, 2),
    counts_with(1, 1, 1),
    counts_with(3, 1, 2),
    counts_with(5, 5, 1),
    counts_with(1, 1, 1, 1),
    counts_with(1, 1, 2, 4),
    counts_with(8, 4, 2, 1, 1),
    counts_with(2, 2, 2, 2, 2),
    counts_with(7, 1, 7, 1, 7, 1),
    counts_with(*[1] * 85),
    counts_with(*range(1, 86)),
    counts_with(*range(85, 0, -1)),
    counts_with(10 ** 60 - 1, 10 ** 59, 1, 10 ** 60 - 1, 2),
    [(sign, 1) for sign in range(256)],
    [(sign, 10 ** 60 - 1 - sign) for sign in range(256)],
    [(0, 1), (255, 1)],
]


class CountsOf(unittest.TestCase):
    def test_of_no_signs(self):
        self.assertEqual(counts_of([]), [])

    def test_in_order_of_signs(self):
        self.assertEqual(counts_of([7]), [(7, 1)])
        self.assertEqual(counts_of([9, 3, 9, 255, 0, 9, 3]), [(0, 1), (3, 2), (9, 3), (255, 1)])
        self.assertEqual(counts_of([255, 10, 9, 100]), [(9, 1), (10, 1), (100, 1), (255, 1)])

    def test_many_signs(self):
        self.assertEqual(counts_of([5] * 400), [(5, 400)])
        self.assertEqual(counts_of(list(range(255, -1, -1))), [(sign, 1) for sign in range(256)])

    def test_texts_of_chance(self):
        chance = random.Random(1)
        for turn in range(60):
            text = [chance.randrange(0, 256, 25) for k in range(chance.randrange(60))]
            self.assertEqual(counts_of(text), [(sign, text.count(sign)) for sign in sorted(set(text))])


class JoiningsOf(unittest.TestCase):
    def test_no_sign_and_one(self):
        self.assertEqual(joinings_of([]), [])
        self.assertEqual(joinings_of([(4, 9)]), [])
        self.assertEqual(least_lengths([]), [])
        self.assertEqual(least_lengths([(4, 9)]), [(4, 1)])

    def test_two_signs(self):
        for counts in ([(4, 9), (5, 1)], [(4, 1), (5, 9)], [(4, 2), (5, 2)], [(0, 10 ** 60 - 1), (255, 1)]):
            self.assertEqual(joinings_of(counts), [(0, 1)])
            self.assertEqual(least_lengths(counts), [(counts[0][0], 1), (counts[1][0], 1)])

    def test_where_only_one_answer_may_be(self):
        self.assertEqual(joinings_of(counts_with(8, 4, 2, 1)), [(2, 3), (1, 4), (0, 5)])
        self.assertEqual(least_lengths(counts_with(8, 4, 2, 1)), lengths_with(1, 2, 3, 3))
        self.assertEqual(joinings_of(counts_with(1, 20, 3, 5)), [(0, 2), (3, 4), (1, 5)])
        self.assertEqual(least_lengths(counts_with(1, 20, 3, 5)), lengths_with(3, 1, 3, 2))
        self.assertEqual(least_lengths(counts_with(7, 7, 7, 7)), lengths_with(2, 2, 2, 2))

    def test_told_ones_are_joinings_and_depths(self):
        for counts in MANY_COUNTS:
            with self.subTest(counts=counts[:6]):
                joinings = joinings_of(counts)
                self.assertEqual(len(joinings), len(counts) - 1)
                self.assertEqual(plain_joinings(counts, joinings), least_lengths(counts))

    def test_of_chance(self):
        chance = random.Random(2)
        for turn in range(150):
            counts = counts_with(*[chance.randrange(1, 12) for k in range(chance.randrange(2, 20))])
            joinings = joinings_of(counts)
            self.assertEqual(plain_joinings(counts, joinings), least_lengths(counts))
            self.assertIs(joinings_show(counts, joinings, least_lengths(counts)), True)

    def test_the_deepest(self):
        counts = fibonacci_counts(256)
        self.assertLess(counts[-1][1], 10 ** 60)
        self.assertEqual(max(length for sign, length in least_lengths(counts)), 255)
        self.assertEqual(plain_joinings(counts, joinings_of(counts)), least_lengths(counts))
        self.assertEqual(len(words_by(least_lengths(counts))), 256)

    def test_no_lengths_give_a_lesser_sum(self):
        for many in range(1, 5):
            for times in itertools.combinations_with_replacement(range(1, 7), many):
                for turned in (times, times[::-1]):
                    counts = counts_with(*turned)
                    self.assertEqual(cost(counts, least_lengths(counts)), least_cost(counts))
        great = (10 ** 59, 1, 7, 10 ** 60 - 1, 7)
        for times in ((1, 1, 2, 3, 5), (5, 1, 3, 1, 2), (4, 4, 4, 4, 4), (9, 1, 1, 1, 1), great):
            counts = counts_with(*times)
            self.assertEqual(cost(counts, least_lengths(counts)), least_cost(counts))

    def test_least_lengths_can_be_words(self):
        for counts in MANY_COUNTS:
            lengths = least_lengths(counts)
            self.assertEqual(halves([length for sign, length in lengths]), 1)
            self.assertEqual([sign for sign, word in words_by(lengths)], [sign for sign, count in counts])


class JoiningsShow(unittest.TestCase):
    def test_what_is_told(self):
        for counts in MANY_COUNTS + [[], [(4, 9)], fibonacci_counts(256)]:
            self.assertIs(joinings_show(counts, joinings_of(counts), least_lengths(counts)), True)

    def test_none_and_one_sign(self):
        self.assertIs(joinings_show([], [], []), True)
        self.assertIs(joinings_show([], [], [(4, 1)]), False)
        self.assertIs(joinings_show([], [(0, 1)], []), False)
        self.assertIs(joinings_show([(4, 9)], [], [(4, 1)]), True)
        self.assertIs(joinings_show([(4, 9)], [], [(4, 0)]), False)
        self.assertIs(joinings_show([(4, 9)], [], [(4, 2)]), False)
        self.assertIs(joinings_show([(4, 9)], [], [(5, 1)]), False)
        self.assertIs(joinings_show([(4, 9)], [], []), False)
        self.assertIs(joinings_show([(4, 9)], [(0, 1)], [(4, 1)]), False)
        self.assertIs(joinings_show([(4, 9)], [(0, 0)], [(4, 1)]), False)

    def test_joinings_other_than_those_told(self):
        three = counts_with(1, 1, 1)
        self.assertIs(joinings_show(three, [(0, 1), (2, 3)], lengths_with(2, 2, 1)), True)
        self.assertIs(joinings_show(three, [(1, 2), (0, 3)], lengths_with(1, 2, 2)), True)
        self.assertIs(joinings_show(three, [(0, 2), (1, 3)], lengths_with(2, 1, 2)), True)
        # Alike sums by unlike depths.
        four = counts_with(1, 1, 2, 2)
        self.assertIs(joinings_show(four, [(0, 1), (2, 3), (4, 5)], lengths_with(2, 2, 2, 2)), True)
        self.assertIs(joinings_show(four, [(0, 1), (2, 4), (3, 5)], lengths_with(3, 3, 2, 1)), True)
        self.assertIs(joinings_show(four, [(0, 1), (3, 4), (2, 5)], lengths_with(3, 3, 1, 2)), True)

    def test_too_few_or_too_many(self):
        counts = counts_with(8, 4, 2, 1)
        lengths = least_lengths(counts)
        joinings = joinings_of(counts)
        self.assertIs(joinings_show(counts, joinings, lengths), True)
        for wrong in ([], joinings[:1], joinings[:-1], joinings[1:], joinings + [(4, 5)], joinings + [(5, 6)]):
            self.assertIs(joinings_show(counts, wrong, lengths), False)
        self.assertIs(joinings_show(counts, joinings + joinings, lengths), False)
        self.assertIs(joinings_show(counts[:2], [], [(1, 1), (4, 1)]), False)

    def test_things_that_may_not_be_joined(self):
        counts = counts_with(1, 1, 1, 1)
        lengths = lengths_with(2, 2, 2, 2)
        self.assertIs(joinings_show(counts, [(0, 1), (2, 3), (4, 5)], lengths), True)
        wrong = [
            [(0, 1), (0, 2), (4, 5)],
            [(0, 1), (0, 1), (4, 5)],
            [(0, 1), (2, 3), (3, 5)],
            [(0, 1), (2, 5), (3, 4)],
            [(2, 4), (0, 1), (3, 5)],
            [(-4, 1), (2, 3), (4, 5)],
            [(-1, 1), (2, 3), (4, 5)],
            [(0, 1), (2, 3), (-1, 5)],
            [(0, 1), (2, 3), (4, 6)],
            [(0, 1), (2, 3), (5, 6)],
            [(0, 1), (2, 3), (4, 10 ** 60 - 1)],
            [(0, 1), (2, 3), (5, 4)],
            [(1, 0), (2, 3), (4, 5)],
            [(0, 0), (2, 3), (4, 5)],
            [(0, 1), (2, 3), (5, 5)],
        ]
        for joinings in wrong:
            with self.subTest(joinings=joinings):
                self.assertIs(joinings_show(counts, joinings, lengths), False)

    def test_too_heavy_things(self):
        counts = counts_with(1, 2, 3)
        self.assertIs(joinings_show(counts, [(0, 1), (2, 3)], lengths_with(2, 2, 1)), True)
        self.assertIs(joinings_show(counts, [(0, 2), (1, 3)], lengths_with(2, 1, 2)), False)
        self.assertIs(joinings_show(counts, [(1, 2), (0, 3)], lengths_with(1, 2, 2)), False)
        # What was made is too heavy; what was made ought to be taken.
        self.assertIs(joinings_show(counts_with(3, 3, 4, 4), [(0, 1), (2, 4), (3, 5)], lengths_with(3, 3, 2, 1)), False)
        self.assertIs(joinings_show(counts_with(1, 1, 4, 4), [(0, 1), (2, 3), (4, 5)], lengths_with(2, 2, 2, 2)), False)

    def test_other_lengths(self):
        counts = counts_with(8, 4, 2, 1)
        joinings = joinings_of(counts)
        right = lengths_with(1, 2, 3, 3)
        self.assertIs(joinings_show(counts, joinings, right), True)
        wrong = [
            [],
            right[:-1],
            right[1:],
            right + [(90, 3)],
            right[::-1],
            lengths_with(2, 2, 2, 2),
            lengths_with(1, 2, 3, 4),
            lengths_with(1, 3, 2, 3),
            lengths_with(0, 2, 3, 3),
            lengths_with(-1, 2, 3, 3),
            [(1, 1), (4, 2), (7, 3), (11, 3)],
            [(0, 1), (4, 2), (7, 3), (10, 3)],
        ]
        for lengths in wrong:
            with self.subTest(lengths=lengths):
                self.assertIs(joinings_show(counts, joinings, lengths), False)

    def test_what_are_no_counts(self):
        joinings = [(0, 1)]
        self.assertIs(joinings_show([(3, 1), (5, 1)], joinings, [(3, 1), (5, 1)]), True)
        wrong = [
            [(5, 1), (3, 1)],
            [(3, 1), (3, 1)],
            [(3, 0), (5, 1)],
            [(3, 1), (5, -1)],
            [(-1, 1), (5, 1)],
            [(3, 1), (256, 1)],
        ]
        for counts in wrong:
            with self.subTest(counts=counts):
                self.assertIs(joinings_show(counts, joinings, [(sign, 1) for sign, count in counts]), False)
        for counts in ([(3, 0)], [(3, -1)], [(-1, 1)], [(256, 1)]):
            with self.subTest(counts=counts):
                self.assertIs(joinings_show(counts, [], [(counts[0][0], 1)]), False)

    def test_all_tuples_of_small_numbers(self):
        pairs = [(i, j) for i in range(-1, 6) for j in range(-1, 6)]
        for counts in (counts_with(1, 1, 1), counts_with(1, 2, 3), counts_with(3, 1, 2), counts_with(2, 1, 1)):
            shown = 0
            for joinings in itertools.product(pairs, repeat=2):
                depths = plain_joinings(counts, list(joinings))
                for lengths in (lengths_with(2, 2, 1), lengths_with(2, 1, 2), lengths_with(1, 2, 2)):
                    truth = joinings_show(counts, list(joinings), lengths)
                    self.assertIs(truth, depths == lengths)
                    shown += truth
            self.assertGreater(shown, 0)

    def test_whatever_is_shown_is_least(self):
        pairs = [(i, j) for i in range(6) for j in range(i + 1, 6)]
        for times in itertools.product(range(1, 4), repeat=4):
            counts = counts_with(*times)
            least = least_cost(counts)
            shown = 0
            for joinings in itertools.product(pairs, repeat=3):
                depths = plain_joinings(counts, list(joinings))
                if depths is not None:
                    self.assertIs(joinings_show(counts, list(joinings), depths), True)
                    self.assertEqual(cost(counts, depths), least)
                    shown += 1
            self.assertGreater(shown, 0)


class WordsBy(unittest.TestCase):
    def test_no_words(self):
        self.assertEqual(words_by([]), [])

    def test_one_word(self):
        self.assertEqual(words_by([(0, 1)]), [(0, [0])])
        self.assertEqual(words_by([(255, 4)]), [(255, [0, 0, 0, 0])])

    def test_by_rising_length_then_sign_and_told_by_sign(self):
        lengths = [(2, 3), (5, 1), (7, 3), (9, 2)]
        words = [(2, [1, 1, 0]), (5, [0]), (7, [1, 1, 1]), (9, [1, 0])]
        self.assertEqual(words_by(lengths), words)
        self.assertEqual(words_by([(2, 2), (5, 2), (7, 2)]), [(2, [0, 0]), (5, [0, 1]), (7, [1, 0])])

    def test_noughts_behind(self):
        words = [(1, [0, 1, 0, 0, 0]), (2, [0, 0]), (3, [0, 1, 0, 0, 1])]
        self.assertEqual(words_by([(1, 5), (2, 2), (3, 5)]), words)

    def test_the_longest_word(self):
        self.assertEqual(words_by([(1, 256)]), [(1, [0] * 256)])
        self.assertEqual(words_by([(1, 256), (2, 256)]), [(1, [0] * 256), (2, [0] * 255 + [1])])
        self.assertEqual(words_by([(1, 1), (2, 256)]), [(1, [0]), (2, [1] + [0] * 255)])
        for lengths in ([(1, 257)], [(1, 1), (2, 257)], [(1, 257), (2, 256)], [(1, 10 ** 60 - 1)]):
            with self.subTest(lengths=lengths), self.assertRaises(NoCode):
                words_by(lengths)

    def test_halves_of_just_one(self):
        just = [[1, 1], [1, 2, 2], [2, 2, 2, 2], [3, 1, 3, 2], [8] * 256]
        just += [list(range(1, 256)) + [255], [255] + list(range(255, 0, -1))]
        for lengths in just:
            pairs = list(enumerate(lengths))
            self.assertEqual(halves(lengths), 1)
            words = words_by(pairs)
            self.assertEqual([(sign, len(word)) for sign, word in words], pairs)
            last = max((len(word), sign, word) for sign, word in words)[2]
            self.assertEqual(last, [1] * len(last))

    def test_halves_above_one(self):
        above = [[1, 1, 1], [1, 1, 256], [1, 2, 2, 256], [2, 2, 2, 2, 2], [8] * 255 + [7]]
        above.append(list(range(1, 255)) + [254, 256])
        above.append([1] * 200)
        for lengths in above:
            with self.subTest(lengths=lengths), self.assertRaises(NoCode):
                words_by(list(enumerate(lengths)))

    def test_what_are_no_lengths(self):
        wrong = [[(1, 0)], [(1, -1)], [(1, 1), (2, 0)], [(2, 2), (1, 2)], [(1, 2), (1, 2)], [(-1, 2)], [(256, 2)]]
        for lengths in wrong:
            with self.subTest(lengths=lengths), self.assertRaises(NoCode):
                words_by(lengths)

    def test_all_small_lengths(self):
        for many in range(1, 6):
            for lengths in itertools.product(range(1, 5), repeat=many):
                pairs = lengths_with(*lengths)
                if halves(lengths) > 1:
                    with self.assertRaises(NoCode):
                        words_by(pairs)
                else:
                    self.look_at(pairs, words_by(pairs))

    def look_at(self, lengths, words):
        self.assertEqual([(sign, len(word)) for sign, word in words], lengths)
        in_order = sorted(words, key=lambda pair: (len(pair[1]), pair[0]))
        self.assertNotIn(1, in_order[0][1])
        for (sign, word), (other, behind) in zip(in_order, in_order[1:]):
            number = int("".join(str(bit) for bit in word), 2) + 1
            written = bin(number)[2:].rjust(len(word), "0").ljust(len(behind), "0")
            self.assertEqual(behind, [int(digit) for digit in written])
        for (sign, word), (other, behind) in itertools.permutations(words, 2):
            self.assertNotEqual(behind[:len(word)], word)


LENGTHS = [(2, 3), (5, 1), (7, 3), (9, 2)]
NO_WORDS = [[(1, 1), (2, 1), (3, 1)], [(1, 257)], [(5, 1), (6, 1), (7, 256)]]


class Coded(unittest.TestCase):
    def test_words_one_behind_the_other(self):
        self.assertEqual(coded([5, 9, 2, 7, 5], LENGTHS), [0] + [1, 0] + [1, 1, 0] + [1, 1, 1] + [0])

    def test_no_signs(self):
        self.assertEqual(coded([], LENGTHS), [])
        self.assertEqual(coded([], []), [])

    def test_a_sign_without_a_length(self):
        for text in ([3], [5, 5, 0], [255, 5], [5, 6, 9]):
            with self.subTest(text=text), self.assertRaises(NoCode):
                coded(text, LENGTHS)
        with self.assertRaises(NoCode):
            coded([0], [])

    def test_lengths_that_cannot_be_words(self):
        for lengths in NO_WORDS:
            for text in ([], [1], [5], [200]):
                with self.subTest(lengths=lengths, text=text), self.assertRaises(NoCode):
                    coded(text, lengths)


class Decoded(unittest.TestCase):
    def test_signs_and_the_place_behind(self):
        bits = [0] + [1, 0] + [1, 1, 0] + [1, 1, 1] + [0]
        self.assertEqual(decoded(bits, 0, LENGTHS, 5), ([5, 9, 2, 7, 5], 10))
        self.assertEqual(decoded(bits, 0, LENGTHS, 2), ([5, 9], 3))
        self.assertEqual(decoded(bits, 3, LENGTHS, 2), ([2, 7], 9))
        self.assertEqual(decoded(bits, 2, LENGTHS, 1), ([5], 3))
        self.assertEqual(decoded(bits, 9, LENGTHS, 1), ([5], 10))
        self.assertIsInstance(decoded(bits, 9, LENGTHS, 1), tuple)

    def test_no_signs(self):
        self.assertEqual(decoded([], 0, [], 0), ([], 0))
        self.assertEqual(decoded([], 0, LENGTHS, 0), ([], 0))
        for at in range(4):
            self.assertEqual(decoded([1, 1, 1], at, LENGTHS, 0), ([], at))

    def test_there_and_back(self):
        chance = random.Random(3)
        for turn in range(80):
            signs = chance.sample(range(256), chance.randrange(1, 30))
            text = [chance.choice(signs) for k in range(chance.randrange(1, 60))]
            lengths = least_lengths(counts_of(text))
            bits = coded(text, lengths)
            self.assertEqual(len(bits), cost(counts_of(text), lengths))
            self.assertEqual(decoded(bits, 0, lengths, len(text)), (text, len(bits)))
            ahead = [chance.randrange(2) for k in range(chance.randrange(9))]
            behind = [chance.randrange(2) for k in range(chance.randrange(9))]
            told = decoded(ahead + bits + behind, len(ahead), lengths, len(text))
            self.assertEqual(told, (text, len(ahead) + len(bits)))

    def test_long_texts(self):
        text = [sign * 7 % 256 for sign in range(400)]
        for lengths in (least_lengths(counts_of(text)), least_lengths(fibonacci_counts(256))):
            bits = coded(text, lengths)
            self.assertEqual(decoded(bits, 0, lengths, 400), (text, len(bits)))
        same = [8] * 400
        self.assertEqual(coded(same, [(8, 1)]), [0] * 400)
        self.assertEqual(decoded([0] * 400, 0, [(8, 1)], 400), (same, 400))

    def test_where_no_word_stands(self):
        for bits, at, lengths, many in (
            ([1], 0, [(4, 1)], 1),
            ([0, 0, 1, 0], 0, [(4, 1)], 4),
            ([1, 1, 0, 0], 0, [(4, 2), (5, 2), (6, 2)], 1),
            ([0, 0, 1, 1], 2, [(4, 2), (5, 2), (6, 2)], 1),
            ([0, 1, 0], 0, [], 1),
        ):
            with self.subTest(bits=bits, lengths=lengths), self.assertRaises(Broken):
                decoded(bits, at, lengths, many)

    def test_bits_that_end_too_early(self):
        text = [5, 9, 2, 7, 5, 2]
        bits = coded(text, LENGTHS)
        for end in range(len(bits)):
            with self.subTest(end=end), self.assertRaises(Broken):
                decoded(bits[:end], 0, LENGTHS, len(text))
        for many in (7, 8, 400, 10 ** 60 - 1):
            with self.subTest(many=many), self.assertRaises(Broken):
                decoded(bits, 0, LENGTHS, many)

    def test_places_that_are_none(self):
        for bits in ([], [0], [0, 0, 0]):
            for at in (-1, -2, -3, -10 ** 60, len(bits) + 1, len(bits) + 5, 10 ** 60):
                for many in (0, 1, 2):
                    with self.subTest(bits=bits, at=at, many=many), self.assertRaises(Broken):
                        decoded(bits, at, LENGTHS, many)
            with self.assertRaises(Broken):
                decoded(bits, len(bits), LENGTHS, 1)

    def test_lengths_that_cannot_be_words_first_of_all(self):
        for lengths in NO_WORDS:
            for bits, at, many in (([0, 0], 0, 0), ([0, 0], 0, 2), ([0], -1, 1), ([0], 9, 1), ([], 0, 4)):
                with self.subTest(lengths=lengths, at=at, many=many), self.assertRaises(NoCode):
                    decoded(bits, at, lengths, many)

    def test_any_bits_are_read_as_packed_or_refused(self):
        for lengths in (LENGTHS, [(5, 1), (7, 3)], [(0, 2), (1, 2), (2, 2)], [(4, 1)]):
            signs = [sign for sign, length in lengths]
            for many in range(4):
                texts = [list(text) for text in itertools.product(signs, repeat=many)]
                packed = [(text, coded(text, lengths)) for text in texts]
                for size in range(9):
                    for row in itertools.product([0, 1], repeat=size):
                        self.look_at(list(row), lengths, many, packed)

    def look_at(self, bits, lengths, many, packed):
        told = [(text, len(words)) for text, words in packed if bits[:len(words)] == words]
        if told:
            self.assertEqual([decoded(bits, 0, lengths, many)], told)
        else:
            with self.assertRaises(Broken):
                decoded(bits, 0, lengths, many)


class HandedInAndTold(unittest.TestCase):
    def test_what_is_handed_in_stays(self):
        text = [9, 3, 9, 5]
        counts = counts_with(5, 1, 3, 1)
        joinings = joinings_of(counts)
        lengths = [(2, 3), (5, 1), (7, 3), (9, 2)]
        bits = [1, 1, 0, 1, 0, 1]
        counts_of(text)
        least_lengths(counts)
        joinings_show(counts, joinings, lengths)
        joinings_show(counts, joinings, least_lengths(counts))
        words_by(lengths)
        coded([9, 5], lengths)
        decoded(bits, 0, lengths, 2)
        for refused in (
            lambda: coded(text, lengths),
            lambda: decoded(bits, 0, lengths, 6),
            lambda: decoded(bits, -1, lengths, 1),
        ):
            with self.assertRaises((NoCode, Broken)):
                refused()
        self.assertEqual(text, [9, 3, 9, 5])
        self.assertEqual(counts, counts_with(5, 1, 3, 1))
        self.assertEqual(joinings, joinings_of(counts_with(5, 1, 3, 1)))
        self.assertEqual(lengths, [(2, 3), (5, 1), (7, 3), (9, 2)])
        self.assertEqual(bits, [1, 1, 0, 1, 0, 1])

    def test_refused_lengths_stay(self):
        lengths = [(1, 1), (2, 1), (3, 1)]
        for refused in (lambda: words_by(lengths), lambda: coded([1], lengths), lambda: decoded([0], 0, lengths, 1)):
            with self.assertRaises(NoCode):
                refused()
        self.assertEqual(lengths, [(1, 1), (2, 1), (3, 1)])

    def test_false_joinings_stay(self):
        counts = counts_with(1, 2, 3)
        joinings = [(1, 2), (0, 3)]
        lengths = lengths_with(1, 2, 2)
        self.assertIs(joinings_show(counts, joinings, lengths), False)
        self.assertEqual((counts, joinings, lengths), (counts_with(1, 2, 3), [(1, 2), (0, 3)], lengths_with(1, 2, 2)))

    def test_what_is_told_is_the_askers_own(self):
        counts = counts_with(5, 1, 3, 1)
        asked = [
            lambda: counts_of([]),
            lambda: counts_of([9, 3, 9]),
            lambda: joinings_of([(4, 1)]),
            lambda: joinings_of(counts),
            lambda: least_lengths([]),
            lambda: least_lengths(counts),
            lambda: words_by([]),
            lambda: words_by(LENGTHS),
            lambda: words_by(LENGTHS)[0][1],
            lambda: coded([], LENGTHS),
            lambda: coded([9], LENGTHS),
            lambda: coded([9, 5], LENGTHS),
            lambda: decoded([], 0, LENGTHS, 0)[0],
            lambda: decoded([0, 1, 0], 0, LENGTHS, 2)[0],
        ]
        for ask in asked:
            first = ask()
            kept = list(first)
            second = ask()
            self.assertIsNot(first, second)
            first.append(3)
            first[0] = 4
            self.assertEqual(second, kept)
            self.assertEqual(ask(), kept)

    def test_no_two_words_are_one_list(self):
        words = words_by([(2, 2), (5, 2), (7, 2)])
        words[0][1].append(9)
        self.assertEqual(words[1:], [(5, [0, 1]), (7, [1, 0])])
        self.assertEqual(words_by([(2, 2), (5, 2), (7, 2)])[0], (2, [0, 0]))

    def test_tuples_are_told(self):
        counts = counts_with(1, 2)
        for told in (counts_of([4, 5]), joinings_of(counts), least_lengths(counts), words_by(LENGTHS)):
            self.assertIsInstance(told, list)
            for pair in told:
                self.assertIsInstance(pair, tuple)

    def test_the_same_is_answered_again(self):
        for counts in MANY_COUNTS:
            self.assertEqual(joinings_of(counts), joinings_of(list(counts)))
            self.assertEqual(least_lengths(counts), least_lengths(list(counts)))


if __name__ == "__main__":
    unittest.main()
