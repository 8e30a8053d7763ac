"""Promises 2, 3 and 13: the ranked text."""

import itertools
import random
import unittest

from packhall.errors import NoNumber, NoPlace
from packhall.ranks import Ranked

GREAT = 10 ** 60 - 1


def all_texts(signs, most):
    for many in range(most + 1):
        for text in itertools.product(signs, repeat=many):
            yield list(text)


def steps_for(text):
    """1, 2, some between, those about the length, and far above it."""
    near = [len(text) - 1, len(text), len(text) + 1]
    return sorted({step for step in [1, 2, 3, 7, len(text) // 2, 500, GREAT] + near if step >= 1})


def places_with(text, sign):
    return [place for place, other in enumerate(text) if other == sign]


LONG = [
    [0] * 400,
    [255] * 400,
    [1, 2] * 200,
    [8] + [9] * 398 + [8],
    list(range(256)) + list(range(144)),
    random.Random(1).choices(range(256), k=400),
    random.Random(2).choices([0, 7, 255], k=399),
]


class Steps(unittest.TestCase):
    def test_below_one(self):
        for text in ([], [5], [5, 6, 5], [0] * 400):
            for step in (0, -1, -2, -400, -GREAT):
                with self.subTest(many=len(text), step=step), self.assertRaises(NoNumber):
                    Ranked(text, step)

    def test_from_one_on(self):
        for text in ([], [5], [5, 6, 5]):
            for step in (1, 2, 3, 4, 400, 10 ** 9, GREAT):
                self.assertEqual(Ranked(text, step).ahead(5, len(text)), text.count(5))

    def test_every_step_tells_the_same(self):
        text = random.Random(3).choices([1, 2, 3], k=40)
        for step in range(1, 45):
            ranked = Ranked(text, step)
            for sign in (0, 1, 2, 3):
                told = [ranked.ahead(sign, at) for at in range(41)]
                self.assertEqual(told, [text[:at].count(sign) for at in range(41)])
                told = [ranked.place_of(sign, k) for k in range(1, 42)]
                places = places_with(text, sign)
                self.assertEqual(told, places + [None] * (41 - len(places)))


class SignAt(unittest.TestCase):
    def test_at_each_place(self):
        for text in LONG + list(all_texts([0, 255], 4)):
            for step in steps_for(text):
                ranked = Ranked(text, step)
                self.assertEqual([ranked.sign_at(at) for at in range(len(text))], text)

    def test_another_place(self):
        for text in ([], [5], [5, 6, 5], LONG[0]):
            for step in steps_for(text):
                ranked = Ranked(text, step)
                for at in (-1, -2, -len(text) - 1, -GREAT, len(text), len(text) + 1, len(text) + step, GREAT):
                    with self.subTest(many=len(text), step=step, at=at), self.assertRaises(NoPlace):
                        ranked.sign_at(at)


class Ahead(unittest.TestCase):
    def test_ordinary(self):
        ranked = Ranked([4, 9, 4, 4], 2)
        self.assertEqual([ranked.ahead(4, at) for at in range(5)], [0, 1, 1, 2, 3])
        self.assertEqual([ranked.ahead(9, at) for at in range(5)], [0, 0, 1, 1, 1])
        self.assertEqual([ranked.ahead(5, at) for at in range(5)], [0, 0, 0, 0, 0])

    def test_every_short_text(self):
        for text in all_texts([0, 3, 255], 4):
            for step in (1, 2, 3, 4, 5, GREAT):
                ranked = Ranked(text, step)
                for sign in (0, 1, 3, 254, 255):
                    for at in range(len(text) + 1):
                        self.assertEqual(ranked.ahead(sign, at), text[:at].count(sign))

    def test_long_texts(self):
        for text in LONG:
            for step in steps_for(text):
                ranked = Ranked(text, step)
                for sign in (0, 1, 2, 7, 8, 9, 100, 254, 255):
                    for at in range(len(text) + 1):
                        self.assertEqual(ranked.ahead(sign, at), text[:at].count(sign))

    def test_another_place(self):
        for text in ([], [5], [5, 6, 5], LONG[0]):
            for step in steps_for(text):
                ranked = Ranked(text, step)
                for sign in (5, 77):
                    for at in (-1, -2, -len(text) - 1, -GREAT, len(text) + 1, len(text) + step + 1, GREAT):
                        with self.subTest(many=len(text), step=step, at=at), self.assertRaises(NoPlace):
                            ranked.ahead(sign, at)


class PlaceOf(unittest.TestCase):
    def test_ordinary(self):
        ranked = Ranked([4, 9, 4, 4], 2)
        self.assertEqual([ranked.place_of(4, k) for k in (1, 2, 3)], [0, 2, 3])
        self.assertEqual(ranked.place_of(9, 1), 1)
        self.assertIsNone(ranked.place_of(4, 4))
        self.assertIsNone(ranked.place_of(9, 2))
        self.assertIsNone(ranked.place_of(5, 1))

    def test_every_short_text(self):
        for text in all_texts([0, 3, 255], 4):
            for step in (1, 2, 3, 4, 5, GREAT):
                self.look_at_each_sign(text, step, (0, 1, 3, 254, 255))

    def test_long_texts(self):
        for text in LONG:
            for step in steps_for(text):
                self.look_at_each_sign(text, step, range(256))

    def look_at_each_sign(self, text, step, signs):
        ranked = Ranked(text, step)
        for sign in signs:
            places = places_with(text, sign)
            self.assertEqual([ranked.place_of(sign, k + 1) for k in range(len(places))], places)
            for k in (1, 2, 400, GREAT):
                self.assertIsNone(ranked.place_of(sign, len(places) + k))

    def test_times_below_one_are_none(self):
        for text in ([], [4], [4, 4, 9]):
            for step in (1, 2, 3, 9):
                for k in (0, -1, -2, -GREAT):
                    self.assertIsNone(Ranked(text, step).place_of(4, k))

    def test_ahead_and_place_of_lead_to_one_another(self):
        text = random.Random(4).choices([1, 2, 3], k=120)
        ranked = Ranked(text, 11)
        for at, sign in enumerate(text):
            self.assertEqual(ranked.place_of(sign, ranked.ahead(sign, at) + 1), at)


class EmptyText(unittest.TestCase):
    def test_what_it_tells(self):
        for step in (1, 2, 400, GREAT):
            ranked = Ranked([], step)
            for sign in (0, 5, 255):
                self.assertEqual(ranked.ahead(sign, 0), 0)
                for k in (1, 2, 400, GREAT):
                    self.assertIsNone(ranked.place_of(sign, k))
            for at in (-1, 0, 1):
                with self.assertRaises(NoPlace):
                    ranked.sign_at(at)
            for at in (-1, 1):
                with self.assertRaises(NoPlace):
                    ranked.ahead(5, at)


class HandedInAndTold(unittest.TestCase):
    def tellings(self, ranked, many):
        told = [ranked.sign_at(at) for at in range(many)]
        for sign in (1, 2, 3, 4):
            told += [ranked.ahead(sign, at) for at in range(many + 1)]
            told += [ranked.place_of(sign, k) for k in range(many + 2)]
        return told

    def test_what_is_handed_in_stays(self):
        text = [1, 2, 1, 3, 1]
        for step in (1, 2, 9):
            ranked = Ranked(text, step)
            self.tellings(ranked, 5)
            for refused in (lambda: ranked.sign_at(5), lambda: ranked.ahead(1, 6), lambda: ranked.sign_at(-1)):
                with self.assertRaises(NoPlace):
                    refused()
        with self.assertRaises(NoNumber):
            Ranked(text, 0)
        self.assertEqual(text, [1, 2, 1, 3, 1])

    def test_a_text_changed_afterwards(self):
        for step in (1, 2, 3, 9):
            text = [1, 2, 1, 3, 1]
            ranked = Ranked(text, step)
            told = self.tellings(ranked, 5)
            text[0] = 4
            text.append(2)
            self.assertEqual(self.tellings(ranked, 5), told)
            with self.assertRaises(NoPlace):
                ranked.sign_at(5)
            text.clear()
            self.assertEqual(self.tellings(ranked, 5), told)
            self.assertEqual(told, self.tellings(Ranked([1, 2, 1, 3, 1], step), 5))

    def test_the_same_is_answered_again(self):
        ranked = Ranked([1, 2, 1, 3, 1], 2)
        told = self.tellings(ranked, 5)
        with self.assertRaises(NoPlace):
            ranked.ahead(1, 9)
        self.assertEqual(self.tellings(ranked, 5), told)

    def test_several_ones_keep_apart(self):
        one = Ranked([1, 2, 1], 2)
        other = Ranked([3, 3], 1)
        self.assertEqual([one.ahead(3, 3), other.ahead(3, 2)], [0, 2])
        self.assertEqual([one.ahead(1, 3), other.ahead(1, 2)], [2, 0])
        self.assertEqual([one.place_of(3, 1), other.place_of(3, 1)], [None, 0])

    def test_whole_numbers_are_told(self):
        ranked = Ranked([1, 2, 1], 2)
        for told in (ranked.sign_at(0), ranked.ahead(1, 0), ranked.ahead(1, 3), ranked.place_of(1, 2)):
            self.assertIs(type(told), int)


if __name__ == "__main__":
    unittest.main()
