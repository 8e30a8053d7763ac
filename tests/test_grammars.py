"""Promises 2, 3 and 17 to 19: grammars of pairs."""

import itertools
import random
import unittest

from packhall.errors import Broken, NoPlace
from packhall.grammars import grammar_count, grammar_length, grammar_of, grammar_stretch, grammar_text

GREAT = 10 ** 60 - 1


def all_texts(signs, most):
    for many in range(most + 1):
        for text in itertools.product(signs, repeat=many):
            yield list(text)


def plain_text(rules, row):
    """The text when all rules are put in, one step after the other, as long as there is one to put in."""
    symbols = list(row)
    for number in range(len(rules) - 1, -1, -1):
        put = []
        for symbol in symbols:
            put += list(rules[number]) if symbol == 256 + number else [symbol]
        symbols = put
    return symbols


def plain_count(text, word):
    return len([at for at in range(len(text) + 1) if text[at:at + len(word)] == word])


def all_grammars(signs, most_rules, most_row):
    """Every grammar of so few signs, rules and symbols in the row."""
    found = []
    rules_so_far = [[]]
    for many in range(most_rules + 1):
        symbols = list(signs) + [256 + k for k in range(many)]
        for rules in rules_so_far:
            found += [(rules, row) for row in all_texts(symbols, most_row)]
        pairs = list(itertools.product(symbols, repeat=2))
        rules_so_far = [rules + [pair] for rules in rules_so_far for pair in pairs]
    return found


def grammars_of_chance(seed, many):
    chance = random.Random(seed)
    found = []
    for turn in range(many):
        signs = chance.choice([[0], [1, 2], [0, 7, 255]])
        rules = []
        for number in range(chance.randrange(9)):
            symbols = signs + [256 + k for k in range(number)]
            rules.append((chance.choice(symbols), chance.choice(symbols[-3:])))
        symbols = signs + [256 + k for k in range(len(rules))]
        found.append((rules, [chance.choice(symbols) for k in range(chance.randrange(6))]))
    return found


def fibonacci_text(many):
    one, two = [7], [7, 3]
    while len(two) < many:
        one, two = two, two + one
    return two[:many]


LONG = [
    [0] * 400,
    [255] * 399,
    [4] * 257,
    [1, 2] * 200,
    [1, 1, 2] * 133,
    [8] + [9] * 398 + [8],
    list(range(256)) + list(range(144)),
    list(range(200)) * 2,
    fibonacci_text(400),
    random.Random(1).choices(range(256), k=400),
    random.Random(2).choices([0, 255], k=400),
    random.Random(3).choices([10, 11, 12], k=397),
]

NO_GRAMMARS = [
    # A rule that uses itself, a later one, or one that is none.
    ([(256, 1)], [256]),
    ([(1, 256)], [256]),
    ([(256, 256)], []),
    ([(1, 2), (257, 1)], [256]),
    ([(1, 2), (1, 257)], [256]),
    ([(257, 1), (1, 2)], [256]),
    ([(1, 257), (1, 2)], []),
    ([(257, 257), (256, 256)], [257]),
    ([(300, 1)], []),
    ([(1, GREAT)], []),
    # A row with symbols of no rule.
    ([], [256]),
    ([], [1, 300, 1]),
    ([(1, 2)], [257]),
    ([(1, 2)], [256, 258]),
    ([(1, 2)], [GREAT]),
    # Symbols below 0.
    ([], [-1]),
    ([], [1, -256]),
    ([(1, 2)], [-1]),
    ([(-1, 2)], []),
    ([(1, -2)], [256]),
    ([(1, 2)], [-GREAT]),
    # What is no pair, and what is no whole number.
    ([(1,)], []),
    ([(1, 2, 3)], []),
    ([()], []),
    ([[1, 2]], [256]),
    ([5], []),
    ([None], []),
    ([(1, "2")], []),
    ([(None, 2)], []),
    ([(True, 2)], []),
    ([(1, False)], []),
    ([], [True]),
    ([], [None]),
    ([], ["a"]),
    ([], [(1, 2)]),
    # What are no lists.
    ((), []),
    ([], ()),
    (((1, 2),), [256]),
    ([(1, 2)], (256,)),
    (None, []),
    ([], None),
    ({}, []),
    ([], ""),
    (5, 5),
]


class GrammarText(unittest.TestCase):
    def test_no_rules(self):
        self.assertEqual(grammar_text([], []), [])
        self.assertEqual(grammar_text([], [0, 255, 7]), [0, 255, 7])

    def test_rules_that_use_rules_ahead(self):
        rules = [(1, 2), (256, 256), (257, 3)]
        self.assertEqual(grammar_text(rules, [256]), [1, 2])
        self.assertEqual(grammar_text(rules, [257]), [1, 2, 1, 2])
        self.assertEqual(grammar_text(rules, [258]), [1, 2, 1, 2, 3])
        self.assertEqual(grammar_text(rules, [9, 258, 256]), [9, 1, 2, 1, 2, 3, 1, 2])
        self.assertEqual(grammar_text(rules, [9]), [9])
        self.assertEqual(grammar_text(rules, []), [])

    def test_every_small_grammar(self):
        for rules, row in all_grammars([0, 255], 2, 3):
            self.assertEqual(grammar_text(rules, row), plain_text(rules, row))

    def test_grammars_of_chance(self):
        read = 0
        for rules, row in grammars_of_chance(4, 400):
            text = plain_text(rules, row)
            if len(text) <= 400:
                self.assertEqual(grammar_text(rules, row), text)
                read += 1
        self.assertGreater(read, 300)

    def test_what_is_no_grammar(self):
        for rules, row in NO_GRAMMARS:
            with self.subTest(rules=rules, row=row), self.assertRaises(Broken):
                grammar_text(rules, row)

    def test_four_hundred_signs_and_more(self):
        # The rule k stands for as many signs as two to the power of k + 1.
        rules = [(1, 1)] + [(256 + k, 256 + k) for k in range(300)]
        self.assertEqual(grammar_text(rules, [263, 262, 259]), [1] * 400)
        self.assertEqual(grammar_text([], [3] * 400), [3] * 400)
        for row in ([263, 262, 259, 1], [1, 263, 262, 259], [263, 262, 260], [264], [256 + 300], [3] * 401, [3] * 9000,
                    [256] * 201):
            with self.subTest(row=row[:4]), self.assertRaises(Broken):
                grammar_text(rules, row)

    def test_rules_that_are_not_used_count_for_nothing(self):
        rules = [(1, 2)] + [(256 + k, 256 + k) for k in range(190)]
        self.assertEqual(grammar_text(rules, [257, 5]), [1, 2, 1, 2, 5])
        self.assertEqual(grammar_text(rules, []), [])

    def test_rules_that_lie_deep(self):
        rules = [(0, 0)] + [(256 + k, 1) for k in range(398)]
        self.assertEqual(grammar_text(rules, [256 + 398]), [0, 0] + [1] * 398)
        rules = [(0, 0)] + [(1, 256 + k) for k in range(398)]
        self.assertEqual(grammar_text(rules, [256 + 398]), [1] * 398 + [0, 0])


class GrammarOf(unittest.TestCase):
    def look_at(self, text):
        rules, row = grammar_of(text)
        self.assertEqual(grammar_text(rules, row), text)
        self.assertEqual(plain_text(rules, row), text)
        self.assertTrue(all(type(rule) is tuple and len(rule) == 2 for rule in rules))
        self.assertLessEqual(len(row) + 2 * len(rules), len(text))
        self.look_at_pairs(rules, row)
        used = list(row) + [symbol for rule in rules for symbol in rule]
        for number in range(len(rules)):
            self.assertIn(256 + number, used)
        return (rules, row)

    def look_at_pairs(self, rules, row):
        places = {}
        for at in range(len(row) - 1):
            places.setdefault((row[at], row[at + 1]), []).append(at)
        for number, rule in enumerate(rules):
            # Far from every other place: the pair of a rule overlaps no other one.
            places.setdefault(rule, []).append(1000 + 10 * number)
        for pair in places:
            for one, other in itertools.combinations(places[pair], 2):
                self.assertLess(other - one, 2, pair)

    def test_no_signs(self):
        self.assertEqual(grammar_of([]), ([], []))

    def test_texts_without_a_pair_twice(self):
        for text in ([5], [5, 5], [5, 5, 5], [1, 2], [1, 2, 1], [1, 2, 2, 1], list(range(256))):
            self.assertEqual(grammar_of(text), ([], text))

    def test_ordinary(self):
        self.assertEqual(self.look_at([1, 2, 1, 2]), ([(1, 2)], [256, 256]))
        self.assertEqual(self.look_at([5, 5, 5, 5]), ([(5, 5)], [256, 256]))

    def test_all_alike_signs(self):
        for many in list(range(70)) + [127, 128, 129, 255, 256, 399, 400]:
            for sign in (0, 255):
                self.look_at([sign] * many)

    def test_every_short_text(self):
        for text in list(all_texts([0, 255], 11)) + list(all_texts([3, 4, 5], 7)):
            self.look_at(text)

    def test_runs_beside_runs(self):
        for one, two, three in itertools.product(range(1, 7), repeat=3):
            self.look_at([1] * one + [2] * two + [1] * three)
            self.look_at([1] * one + [2] + [1] * two + [3] + [1] * three)

    def test_texts_of_chance(self):
        chance = random.Random(5)
        for turn in range(200):
            signs = chance.choice([[1, 2], [1, 2, 3], [0, 1, 2, 3, 255]])
            self.look_at([chance.choice(signs) for k in range(chance.randrange(120))])

    def test_long_texts(self):
        for text in LONG:
            self.look_at(text)

    def test_what_comes_together_is_put_together(self):
        rules, row = self.look_at([1, 2, 3, 4] * 100)
        self.assertLess(len(row) + 2 * len(rules), 40)

    def test_the_pair_that_stands_most_often_comes_first(self):
        # The document leaves it free; so fewer symbols are left of most texts.
        self.assertEqual(self.look_at([1, 2, 3, 1, 2, 4, 5, 4, 5, 4, 5]),
                         ([(4, 5), (1, 2)], [257, 3, 257, 256, 256, 256]))
        # Of those that stand alike often the one that stands first.
        self.assertEqual(self.look_at([1, 2, 3, 4, 1, 2, 9, 3, 4]), ([(1, 2), (3, 4)], [256, 257, 256, 9, 257]))

    def test_kinds(self):
        for text in ([], [5], [5, 6, 5, 6], [5] * 9):
            told = grammar_of(text)
            self.assertIs(type(told), tuple)
            self.assertEqual([type(part) for part in told], [list, list])


class AsTheyLie(unittest.TestCase):
    def look_at(self, rules, row, words):
        text = plain_text(rules, row)
        self.assertEqual(grammar_length(rules, row), len(text))
        for first in range(len(text) + 1):
            for last in range(first, len(text) + 1):
                self.assertEqual(grammar_stretch(rules, row, first, last), text[first:last])
        for word in words:
            self.assertEqual(grammar_count(rules, row, word), plain_count(text, word))

    def test_every_small_grammar(self):
        words = list(all_texts([0, 255], 3)) + [[0, 255, 0, 255], [255] * 4, [0] * 5, [7], [0, 7]]
        for rules, row in all_grammars([0, 255], 2, 2):
            self.look_at(rules, row, words)

    def test_grammars_of_chance(self):
        chance = random.Random(6)
        for rules, row in grammars_of_chance(7, 300):
            text = plain_text(rules, row)
            if len(text) > 60:
                continue
            words = [[], [9], [0, 9]]
            for turn in range(12):
                at = chance.randrange(len(text) + 1)
                word = text[at:at + chance.randrange(1, 12)]
                words += [word, word + [chance.choice([0, 1, 2])]]
            self.look_at(rules, row, words + [text, text + [0], text[1:]])

    def test_grammars_of_long_texts(self):
        chance = random.Random(8)
        for text in LONG:
            rules, row = grammar_of(text)
            self.assertEqual(grammar_length(rules, row), len(text))
            for turn in range(25):
                first = chance.randrange(len(text) + 1)
                last = chance.randrange(first, len(text) + 1)
                self.assertEqual(grammar_stretch(rules, row, first, last), text[first:last])
                word = text[first:first + chance.choice([1, 2, 3, 5, 40, 399, 400])]
                self.assertEqual(grammar_count(rules, row, word), plain_count(text, word))
                self.assertEqual(grammar_count(rules, row, word + word), plain_count(text, word + word))

    def test_of_no_signs(self):
        for rules in ([], [(1, 2)], [(1, 2), (256, 256)]):
            self.assertEqual(grammar_length(rules, []), 0)
            self.assertEqual(grammar_stretch(rules, [], 0, 0), [])
            self.assertEqual(grammar_count(rules, [], [1]), 0)
            self.assertEqual(grammar_count(rules, [], [1, 2]), 0)

    def test_overlapping_words(self):
        rules = [(8, 8), (256, 256), (257, 257)]
        for times in range(1, 24):
            self.assertEqual(grammar_count(rules, [258, 258, 8], [8] * times), max(18 - times, 0))
        rules = [(1, 2), (256, 256), (257, 1)]
        self.assertEqual(grammar_count(rules, [258], [1, 2, 1]), 2)

    def test_the_empty_word_stands_at_each_place(self):
        for rules, row in (([], []), ([], [5]), ([(1, 2)], [256, 3]), ([(1, 1), (256, 256)], [257] * 9)):
            self.assertEqual(grammar_count(rules, row, []), len(plain_text(rules, row)) + 1)

    def test_what_is_no_grammar(self):
        for rules, row in NO_GRAMMARS:
            with self.subTest(rules=rules, row=row):
                self.assertRaises(Broken, grammar_length, rules, row)
                for word in ([], [1], [1, 2]):
                    self.assertRaises(Broken, grammar_count, rules, row, word)
                # Ahead of all else: also where there is no such stretch.
                for first, last in ((0, 0), (0, 1), (-1, 0), (2, 1), (0, GREAT), (GREAT, -GREAT)):
                    self.assertRaises(Broken, grammar_stretch, rules, row, first, last)

    def test_other_places(self):
        for rules, row in (([], []), ([], [5]), ([(1, 2), (256, 3)], [257, 256]), ([(1, 1), (256, 256)], [257] * 9)):
            many = len(plain_text(rules, row))
            for first, last in ((-1, 0), (-1, many), (-1, -1), (0, -1), (-2, -1), (0, many + 1), (many, many + 1),
                                (many + 1, many + 1), (many + 1, many), (1, 0), (many, many - 1),
                                (-GREAT, 0), (0, GREAT), (GREAT, GREAT), (GREAT, 0), (0, -GREAT)):
                with self.subTest(many=many, first=first, last=last), self.assertRaises(NoPlace):
                    grammar_stretch(rules, row, first, last)


class GreatGrammars(unittest.TestCase):
    """Texts as long as numbers of sixty figures: two to the power of 199 has sixty."""

    def test_one_sign_doubled(self):
        rules = [(5, 5)] + [(256 + k, 256 + k) for k in range(198)]
        row = [256 + 198]
        length = 2 ** 199
        self.assertEqual(len(str(length)), 60)
        self.assertEqual(grammar_length(rules, row), length)
        for times in (1, 2, 3, 17, 399, 400):
            self.assertEqual(grammar_count(rules, row, [5] * times), length - times + 1)
        self.assertEqual(grammar_count(rules, row, []), length + 1)
        self.assertEqual(grammar_count(rules, row, [5, 6]), 0)
        for first in (0, 1, 10 ** 58, length // 2 - 200, length - 400):
            self.assertEqual(grammar_stretch(rules, row, first, first + 400), [5] * 400)
            self.assertEqual(grammar_stretch(rules, row, first, first), [])
        self.assertEqual(grammar_stretch(rules, row, length, length), [])
        self.assertRaises(Broken, grammar_text, rules, row)
        for first, last in ((-1, 0), (length, length + 1), (length + 1, length + 1), (length, length - 1)):
            self.assertRaises(NoPlace, grammar_stretch, rules, row, first, last)

    def test_two_signs_doubled(self):
        rules = [(1, 2)] + [(256 + k, 256 + k) for k in range(198)]
        row = [3, 256 + 198, 256 + 198, 4]
        times = 2 ** 199
        self.assertEqual(grammar_length(rules, row), 2 * times + 2)
        self.assertEqual(grammar_count(rules, row, [1, 2]), times)
        self.assertEqual(grammar_count(rules, row, [2, 1]), times - 1)
        self.assertEqual(grammar_count(rules, row, [1, 2] * 200), times - 199)
        self.assertEqual(grammar_count(rules, row, [2, 1] * 200), times - 200)
        self.assertEqual(grammar_count(rules, row, [3, 1, 2]), 1)
        self.assertEqual(grammar_count(rules, row, [1, 2, 4]), 1)
        self.assertEqual(grammar_count(rules, row, [4]), 1)
        self.assertEqual(grammar_count(rules, row, [4, 3]), 0)
        self.assertEqual(grammar_count(rules, row, [1, 1]), 0)
        self.assertEqual(grammar_stretch(rules, row, 0, 4), [3, 1, 2, 1])
        self.assertEqual(grammar_stretch(rules, row, times - 1, times + 3), [1, 2, 1, 2])
        self.assertEqual(grammar_stretch(rules, row, 2 * times - 2, 2 * times + 2), [2, 1, 2, 4])

    def test_a_text_that_is_told_by_the_bits_of_its_places(self):
        # The rules 2k and 2k + 1 are of two to the k + 1 signs, one the other with 0 and 1 changed.
        rules = [(0, 1), (1, 0)]
        for k in range(198):
            rules += [(256 + 2 * k, 257 + 2 * k), (257 + 2 * k, 256 + 2 * k)]
        row = [256 + 2 * 198]
        length = 2 ** 199
        self.assertEqual(grammar_length(rules, row), length)

        def stretch(first, last):
            return [bin(at).count("1") % 2 for at in range(first, last)]

        chance = random.Random(9)
        firsts = [0, 1, 2 ** 100 - 200, length // 2 - 7, length - 400]
        firsts += [chance.randrange(length - 400) for turn in range(20)]
        for first in firsts:
            many = chance.choice([1, 2, 399, 400])
            self.assertEqual(grammar_stretch(rules, row, first, first + many), stretch(first, first + many))
        self.assertEqual(grammar_count(rules, row, [0]), length // 2)
        self.assertEqual(grammar_count(rules, row, [1]), length // 2)
        self.assertEqual(grammar_count(rules, row, [0, 1, 0, 1, 0]), 0)
        self.assertEqual(grammar_count(rules, row, [1, 1, 1]), 0)
        pairs = [grammar_count(rules, row, [a, b]) for a in (0, 1) for b in (0, 1)]
        self.assertEqual(sum(pairs), length - 1)
        self.assertEqual(pairs, self.pairs_of_so_many_doublings(199))

    def pairs_of_so_many_doublings(self, many):
        """How often 00, 01, 10, 11 stand, counted doubling by doubling: the ones, the others, and where they meet."""
        one, other = [0, 1, 0, 0], [0, 0, 1, 0]
        last = 1
        for k in range(1, many):
            both = [a + b for a, b in zip(one, other)]
            joined, mirrored = list(both), list(both)
            joined[2 * last + 1] += 1
            mirrored[2 * (1 - last) + 0] += 1
            one, other = joined, mirrored
            last = 1 - last
        return one

    def test_the_sum_of_the_two_ahead(self):
        rules = [(7, 3), (256, 7)] + [(257 + k, 256 + k) for k in range(280)]
        numbers = [1, 1]
        while len(numbers) < 300:
            numbers.append(numbers[-1] + numbers[-2])
        row = [256 + 281]
        text = fibonacci_text(400)
        self.assertEqual(grammar_length(rules, row), numbers[283])
        self.assertEqual(grammar_count(rules, row, [7]), numbers[282])
        self.assertEqual(grammar_count(rules, row, [3]), numbers[281])
        self.assertEqual(grammar_count(rules, row, [3, 3]), 0)
        self.assertEqual(grammar_stretch(rules, row, 0, 400), text)
        # What stands from the place of a number of the row on is the text again.
        for k in (20, 100, 280):
            self.assertEqual(grammar_stretch(rules, row, numbers[k], numbers[k] + 300), text[:300])

    def test_great_figures_in_the_row_and_the_count_by_parts(self):
        rules = [(1, 2), (256, 1)] + [(256 + k, 257 + k) for k in range(150)]
        row = [256 + 151, 9, 256 + 149, 256 + 150]
        parts = [grammar_length(rules, [symbol]) for symbol in row]
        self.assertEqual(grammar_length(rules, row), sum(parts))
        for word in ([1], [2], [1, 2], [2, 1], [1, 1, 2], [1, 2, 1, 1, 2]):
            # A word stands in one part, or where the last two of them meet: none has a 9.
            apart = sum(grammar_count(rules, [symbol], word) for symbol in row)
            near = len(word) - 1
            tail = grammar_stretch(rules, [row[2]], parts[2] - near, parts[2])
            head = grammar_stretch(rules, [row[3]], 0, near)
            self.assertEqual(grammar_count(rules, row, word), apart + plain_count(tail + head, word))

    def test_stretches_somewhat_longer_than_four_hundred(self):
        rules = [(5, 6)] + [(256 + k, 256 + k) for k in range(198)]
        self.assertEqual(grammar_stretch(rules, [256 + 198], 10 ** 50, 10 ** 50 + 500), [5, 6] * 250)

    def test_rules_that_lie_very_deep(self):
        many = 9000
        for rules, text in (([(0, 1)] + [(256 + k, k % 256) for k in range(many)],
                             [0, 1] + [k % 256 for k in range(many)]),
                            ([(0, 1)] + [(k % 256, 256 + k) for k in range(many)],
                             [k % 256 for k in range(many - 1, -1, -1)] + [0, 1])):
            row = [256 + many]
            self.assertEqual(grammar_length(rules, row), many + 2)
            for first in (0, 1, 4000, many - 398):
                self.assertEqual(grammar_stretch(rules, row, first, first + 400), text[first:first + 400])
            for word in ([0], [255, 0], text[2000:2100], text[:2], text[-2:], text[-3:]):
                self.assertEqual(grammar_count(rules, row, word), plain_count(text, word))
            self.assertRaises(Broken, grammar_text, rules, row)


class HandedInAndTold(unittest.TestCase):
    def test_what_is_handed_in_stays(self):
        text = [1, 2, 1, 2, 1, 2]
        grammar_of(text)
        self.assertEqual(text, [1, 2, 1, 2, 1, 2])
        rules, row, word = [(1, 2), (256, 256)], [257, 3, 256], [2, 1]
        grammar_text(rules, row)
        grammar_length(rules, row)
        grammar_stretch(rules, row, 1, 5)
        grammar_count(rules, row, word)
        with self.assertRaises(NoPlace):
            grammar_stretch(rules, row, 1, 50)
        self.assertEqual((rules, row, word), ([(1, 2), (256, 256)], [257, 3, 256], [2, 1]))

    def test_what_is_refused_stays(self):
        for rules, row in (([(1, 2), (257, 1)], [256]), ([(1, 2)], [257]), ([(1, 2)], [256] * 300)):
            kept = (list(rules), list(row))
            with self.assertRaises(Broken):
                grammar_text(rules, row)
            self.assertEqual((rules, row), kept)

    def test_what_is_told_is_the_askers_own(self):
        asked = [
            lambda: grammar_of([])[0],
            lambda: grammar_of([])[1],
            lambda: grammar_of([4, 5])[1],
            lambda: grammar_of([4, 5, 4, 5])[0],
            lambda: grammar_of([4, 5, 4, 5])[1],
            lambda: grammar_text([], []),
            lambda: grammar_text([], [4, 5]),
            lambda: grammar_text([(4, 5)], [256, 256]),
            lambda: grammar_stretch([], [4, 5], 0, 2),
            lambda: grammar_stretch([(4, 5)], [256, 256], 1, 1),
            lambda: grammar_stretch([(4, 5)], [256, 256], 1, 3),
        ]
        for ask in asked:
            first = ask()
            kept = list(first)
            second = ask()
            self.assertIsNot(first, second)
            first.append(3)
            first[0] = 9
            self.assertEqual(second, kept)
            self.assertEqual(ask(), kept)

    def test_what_is_told_is_not_what_was_handed_in(self):
        text = [4, 5]
        self.assertIsNot(grammar_of(text)[1], text)
        self.assertIsNot(grammar_text([], text), text)
        self.assertIsNot(grammar_stretch([], text, 0, 2), text)
        rules, row = grammar_of([])
        self.assertIsNot(rules, row)

    def test_whole_numbers_are_told(self):
        for told in (grammar_length([], []), grammar_length([(1, 2)], [256]), grammar_count([], [], [1]),
                     grammar_count([(1, 2)], [256], [1, 2]), grammar_count([], [1], [1])):
            self.assertIs(type(told), int)


if __name__ == "__main__":
    unittest.main()
