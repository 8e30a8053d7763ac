"""Promises 2, 3 and 14: the sought text."""

import itertools
import random
import unittest

from packhall.errors import Broken, NoNumber, NoPlace
from packhall.seeking import Sought
from packhall.turns import turned_text

GREAT = 10 ** 60 - 1


def all_texts(signs, most):
    for many in range(most + 1):
        for text in itertools.product(signs, repeat=many):
            yield list(text)


def plain_turned(text):
    """The turned text, straight by the words of the document."""
    places = sorted(range(len(text) + 1), key=lambda at: text[at:])
    return ([text[at - 1] for at in places if at > 0], places.index(0))


def plain_places(text, word):
    """A plain walk over all places, the one behind the last sign too."""
    return [at for at in range(len(text) + 1) if text[at:at + len(word)] == word]


def sought(text, step):
    row, hole = turned_text(text)
    return Sought(row, hole, step)


def steps_for(text):
    """1, 2, some between, those about the length, and far above it."""
    near = [len(text) - 1, len(text), len(text) + 1]
    return sorted({step for step in [1, 2, 3, 7, 20, len(text) // 2, 500, GREAT] + near if step >= 1})


def fibonacci_text(many):
    one, two = [7], [7, 3]
    while len(two) < many:
        one, two = two, two + one
    return two[:many]


LONG = [
    [0] * 400,
    [255] * 399,
    [1, 2] * 200,
    [8] + [9] * 398 + [8],
    list(range(256)) + list(range(144)),
    list(range(255, -1, -1)) + list(range(143, -1, -1)),
    fibonacci_text(400),
    random.Random(1).choices(range(256), k=400),
    random.Random(2).choices([0, 255], k=400),
    random.Random(3).choices([10, 11, 12], k=397),
]


class Made(unittest.TestCase):
    def test_of_what_is_no_turned_text(self):
        for row, hole in (([5], 0), ([1, 2], 1), ([2, 1], 2), ([2, 1], 0), ([6] * 400, 0), ([6] * 400, 399),
                          ([], 1), ([], -1), ([5], 2), ([5], -1), ([5], GREAT), ([5], -GREAT), ([256], 1), ([-1], 1)):
            for step in (1, 2, 400, GREAT):
                with self.subTest(row=row[:12], hole=hole, step=step), self.assertRaises(Broken):
                    Sought(row, hole, step)

    def test_broken_comes_ahead_of_the_step(self):
        for row, hole in (([5], 0), ([2, 1], 2), ([6] * 400, 0), ([], 1), ([], -1), ([5], GREAT)):
            for step in (0, -1, -400, -GREAT):
                with self.subTest(row=row[:12], hole=hole, step=step), self.assertRaises(Broken):
                    Sought(row, hole, step)

    def test_steps_below_one(self):
        for text in ([], [5], [5, 6, 5], [0] * 400):
            row, hole = turned_text(text)
            for step in (0, -1, -2, -400, -GREAT):
                with self.subTest(many=len(text), step=step), self.assertRaises(NoNumber):
                    Sought(row, hole, step)

    def test_every_row_of_few_signs_with_every_hole(self):
        turned = {}
        for text in all_texts([0, 255], 7):
            row, hole = plain_turned(text)
            turned[(tuple(row), hole)] = text
        refused = 0
        for row in all_texts([0, 255], 7):
            for hole in range(-1, len(row) + 2):
                text = turned.get((tuple(row), hole))
                if text is not None:
                    made = Sought(row, hole, 3)
                    self.assertEqual(made.stretch(0, made.length()), text)
                    with self.assertRaises(NoNumber):
                        Sought(row, hole, 0)
                else:
                    refused += 1
                    for step in (1, 0):
                        with self.assertRaises(Broken):
                            Sought(row, hole, step)
        self.assertGreater(refused, len(turned))


class Length(unittest.TestCase):
    def test_of_short_and_long_texts(self):
        for text in LONG + list(all_texts([0, 255], 4)):
            for step in steps_for(text):
                self.assertEqual(sought(text, step).length(), len(text))


class CountAndPlaces(unittest.TestCase):
    def look_at(self, text, made, words):
        for word in words:
            places = plain_places(text, word)
            self.assertEqual(made.places(word), places)
            self.assertEqual(made.count(word), len(places))

    def test_ordinary(self):
        made = sought([ord(letter) for letter in "banana"], 2)
        for word, places in (("a", [1, 3, 5]), ("ana", [1, 3]), ("na", [2, 4]), ("nan", [2]), ("b", [0]),
                             ("banana", [0]), ("ab", []), ("c", []), ("bananas", []), ("nanan", [])):
            signs = [ord(letter) for letter in word]
            self.assertEqual(made.places(signs), places)
            self.assertEqual(made.count(signs), len(places))

    def test_overlapping(self):
        for many in (1, 2, 5, 30):
            for step in (1, 2, 4, 31, GREAT):
                made = sought([8] * many, step)
                for times in range(1, many + 3):
                    self.assertEqual(made.count([8] * times), max(many - times + 1, 0))
                    self.assertEqual(made.places([8] * times), list(range(many - times + 1)))

    def test_the_empty_word_stands_at_each_place(self):
        for text in LONG + [[], [5], [5, 6]]:
            for step in (1, 7, GREAT):
                made = sought(text, step)
                self.assertEqual(made.count([]), len(text) + 1)
                self.assertEqual(made.places([]), list(range(len(text) + 1)))

    def test_every_short_text(self):
        words = list(all_texts([0, 3, 7, 255], 3))
        for text in all_texts([0, 7, 255], 4):
            for step in (1, 2, 3, 5, GREAT):
                self.look_at(text, sought(text, step), words)

    def test_every_short_text_of_two_signs(self):
        words = list(all_texts([4, 5], 5))
        for text in all_texts([4, 5], 7):
            self.look_at(text, sought(text, 3), words)

    def test_made_of_a_turned_text_by_the_words_of_the_document(self):
        for text in all_texts([1, 2, 3], 4):
            row, hole = plain_turned(text)
            self.look_at(text, Sought(row, hole, 2), list(all_texts([1, 2, 3], 2)))

    def test_long_texts(self):
        chance = random.Random(4)
        for text in LONG:
            words = [[sign] for sign in (0, 1, 2, 7, 8, 9, 100, 254, 255)]
            for turn in range(20):
                at = chance.randrange(len(text))
                word = text[at:at + chance.choice([1, 2, 3, 10, 200])]
                words += [word, word + [chance.choice(text)], [chance.choice(text)] + word, word + [77], [77] + word]
            words += [text, text[1:], text[:-1], text + text[:1], text[:1] + text, text + text]
            for step in steps_for(text):
                if step < 30:
                    self.look_at(text, sought(text, step), words)
                else:
                    # Marks far apart make long walks for each place.
                    self.look_at(text, sought(text, step), [text[:1], text[150:180], text[390:] + [77]])

    def test_words_that_do_not_stand_there(self):
        made = sought([3, 4, 3, 4], 2)
        for word in ([2], [5], [0], [255], [3, 5], [5, 3], [4, 4], [3, 3], [3, 4, 4], [4, 3, 4, 3], [3, 4, 3, 4, 3],
                     [3] * 400):
            self.assertEqual((made.count(word), made.places(word)), (0, []))

    def test_of_the_empty_text(self):
        for step in (1, 2, GREAT):
            made = sought([], step)
            for word in ([0], [255], [5, 6], [0] * 400):
                self.assertEqual((made.count(word), made.places(word)), (0, []))


class Stretch(unittest.TestCase):
    def test_between_all_places_of_short_texts(self):
        for text in all_texts([0, 7, 255], 5):
            for step in (1, 2, 3, 5, 6, GREAT):
                made = sought(text, step)
                for first in range(len(text) + 1):
                    for last in range(first, len(text) + 1):
                        self.assertEqual(made.stretch(first, last), text[first:last])

    def test_between_all_places_of_a_longer_text(self):
        text = random.Random(5).choices([1, 2, 3], k=60)
        for step in (1, 2, 7, 59, 60, 61, GREAT):
            made = sought(text, step)
            for first in range(61):
                for last in range(first, 61):
                    self.assertEqual(made.stretch(first, last), text[first:last])

    def test_of_long_texts(self):
        chance = random.Random(6)
        for text in LONG:
            for step in steps_for(text):
                made = sought(text, step)
                self.assertEqual(made.stretch(0, len(text)), text)
                for turn in range(30):
                    first = chance.randrange(len(text) + 1)
                    last = chance.randrange(first, len(text) + 1)
                    self.assertEqual(made.stretch(first, last), text[first:last])

    def test_of_the_empty_text(self):
        for step in (1, 2, GREAT):
            self.assertEqual(sought([], step).stretch(0, 0), [])

    def test_other_places(self):
        for text in ([], [5], [5, 6, 5], LONG[0]):
            many = len(text)
            for step in (1, 2, many + 1, GREAT):
                made = sought(text, step)
                for first, last in ((-1, 0), (-1, many), (-1, -1), (0, -1), (-2, -1), (0, many + 1), (many, many + 1),
                                    (many + 1, many + 1), (many + 1, many), (1, 0), (many, many - 1),
                                    (-GREAT, 0), (0, GREAT), (GREAT, GREAT), (GREAT, 0), (0, -GREAT)):
                    with self.subTest(many=many, step=step, first=first, last=last), self.assertRaises(NoPlace):
                        made.stretch(first, last)

    def test_the_first_above_the_second(self):
        made = sought([1, 2, 3, 4], 2)
        for first in range(5):
            for last in range(first):
                with self.assertRaises(NoPlace):
                    made.stretch(first, last)


class HandedInAndTold(unittest.TestCase):
    def tellings(self, made):
        told = [made.length()]
        for word in ([], [1], [2], [1, 2], [2, 1], [3], [4], [1, 2, 1, 3, 1]):
            told += [made.count(word), made.places(word)]
        for first in range(6):
            for last in range(first, 6):
                told.append(made.stretch(first, last))
        return told

    def test_what_is_handed_in_stays(self):
        row, hole = turned_text([1, 2, 1, 3, 1])
        kept = list(row)
        for step in (1, 2, 9):
            made = Sought(row, hole, step)
            self.tellings(made)
            word = [1, 2]
            made.count(word)
            made.places(word)
            self.assertEqual(word, [1, 2])
            with self.assertRaises(NoPlace):
                made.stretch(0, 6)
        with self.assertRaises(NoNumber):
            Sought(row, hole, 0)
        self.assertEqual(row, kept)
        for step in (0, 1):
            broken = [2, 1]
            with self.assertRaises(Broken):
                Sought(broken, 2, step)
            self.assertEqual(broken, [2, 1])

    def test_a_row_changed_afterwards(self):
        for step in (1, 2, 3, 9):
            row, hole = turned_text([1, 2, 1, 3, 1])
            made = Sought(row, hole, step)
            told = self.tellings(made)
            row[0] = 4
            row.append(2)
            self.assertEqual(self.tellings(made), told)
            row.clear()
            self.assertEqual(self.tellings(made), told)
            self.assertEqual(told, self.tellings(sought([1, 2, 1, 3, 1], step)))

    def test_what_is_told_is_the_askers_own(self):
        for step in (1, 2, 9):
            made = sought([1, 2, 1, 3, 1], step)
            kept = self.tellings(made)
            asked = [
                lambda: made.places([]),
                lambda: made.places([1]),
                lambda: made.places([7]),
                lambda: made.places([1, 2, 1, 3, 1]),
                lambda: made.stretch(0, 5),
                lambda: made.stretch(2, 2),
                lambda: made.stretch(1, 3),
            ]
            for ask in asked:
                first = ask()
                as_told = list(first)
                second = ask()
                self.assertIsNot(first, second)
                first.append(99)
                first[0] = 98
                self.assertEqual(second, as_told)
                self.assertEqual(ask(), as_told)
            self.assertEqual(self.tellings(made), kept)

    def test_what_was_refused_changes_nothing(self):
        made = sought([1, 2, 1, 3, 1], 2)
        told = self.tellings(made)
        for first, last in ((-1, 2), (3, 2), (0, 6)):
            with self.assertRaises(NoPlace):
                made.stretch(first, last)
        self.assertEqual(self.tellings(made), told)

    def test_several_ones_keep_apart(self):
        one = sought([1, 2, 1], 2)
        other = sought([3, 3], 1)
        self.assertEqual([one.count([3]), other.count([3])], [0, 2])
        self.assertEqual([one.places([1]), other.places([1])], [[0, 2], []])
        self.assertEqual([one.stretch(0, 2), other.stretch(0, 2)], [[1, 2], [3, 3]])

    def test_kinds(self):
        made = sought([1, 2, 1], 2)
        for told in (made.length(), made.count([1]), made.count([9]), made.count([])):
            self.assertIs(type(told), int)
        for told in (made.places([1]), made.places([]), made.stretch(0, 3)):
            self.assertIs(type(told), list)
            self.assertTrue(all(type(number) is int for number in told))


if __name__ == "__main__":
    unittest.main()
