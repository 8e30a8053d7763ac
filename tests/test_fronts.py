"""Promises 2, 3 and 12: fronts of texts, runs of whole numbers, and the ways back."""

import itertools
import random
import unittest

from packhall.errors import Broken
from packhall.fronts import fronts_of, numbers_by_runs, runs_of, text_by_fronts

GREAT = 10 ** 60 - 1


def all_lists(things, most):
    for many in range(most + 1):
        for row in itertools.product(things, repeat=many):
            yield list(row)


def plain_fronts(text):
    """The fronts, by a row of all 256 signs that is kept plainly."""
    row = list(range(256))
    fronts = []
    for sign in text:
        fronts.append(row.index(sign))
        row.remove(sign)
        row.insert(0, sign)
    return fronts


def plain_runs(numbers):
    return [(number, len(list(alike))) for number, alike in itertools.groupby(numbers)]


def is_broken(runs):
    """Whether the document refuses runs."""
    if any(times < 1 for number, times in runs):
        return True
    if any(one[0] == other[0] for one, other in zip(runs, runs[1:])):
        return True
    return sum(times for number, times in runs) > 400


LONG_TEXTS = [
    [0] * 400,
    [255] * 400,
    [0, 255] * 200,
    list(range(256)) + list(range(144)),
    list(range(255, -1, -1)) + list(range(144)),
    random.Random(1).choices(range(256), k=400),
    random.Random(2).choices([0, 7, 255], k=400),
]


class FrontsOf(unittest.TestCase):
    def test_no_signs(self):
        self.assertEqual(fronts_of([]), [])

    def test_one_sign(self):
        for sign in range(256):
            self.assertEqual(fronts_of([sign]), [sign])

    def test_ordinary(self):
        self.assertEqual(fronts_of([3, 3, 3]), [3, 0, 0])
        self.assertEqual(fronts_of([3, 4, 3, 4]), [3, 4, 1, 1])
        self.assertEqual(fronts_of([3, 1, 2, 0]), [3, 2, 3, 3])
        self.assertEqual(fronts_of([255, 254, 255]), [255, 255, 1])

    def test_every_short_text(self):
        for text in all_lists([0, 1, 2, 255], 5):
            self.assertEqual(fronts_of(text), plain_fronts(text))

    def test_long_texts(self):
        for text in LONG_TEXTS:
            self.assertEqual(fronts_of(text), plain_fronts(text))

    def test_texts_of_chance(self):
        chance = random.Random(3)
        for turn in range(60):
            text = chance.choices(range(chance.randrange(1, 257)), k=chance.randrange(100))
            self.assertEqual(fronts_of(text), plain_fronts(text))

    def test_a_list_is_told(self):
        self.assertIs(type(fronts_of([])), list)
        self.assertIs(type(fronts_of([4, 4])), list)


class TextByFronts(unittest.TestCase):
    def test_no_fronts(self):
        self.assertEqual(text_by_fronts([]), [])

    def test_ordinary(self):
        self.assertEqual(text_by_fronts([3, 0, 0]), [3, 3, 3])
        self.assertEqual(text_by_fronts([3, 4, 1, 1]), [3, 4, 3, 4])
        self.assertEqual(text_by_fronts([255, 255, 255]), [255, 254, 253])

    def test_there_and_back(self):
        for text in list(all_lists([0, 1, 2, 255], 5)) + LONG_TEXTS:
            self.assertEqual(text_by_fronts(fronts_of(text)), text)

    def test_any_places_lead_to_a_text_of_which_they_are_the_fronts(self):
        chance = random.Random(4)
        rows = [chance.choices(range(256), k=400) for turn in range(30)] + list(all_lists([0, 1, 254, 255], 5))
        for fronts in rows:
            text = text_by_fronts(fronts)
            self.assertTrue(all(0 <= sign <= 255 for sign in text))
            self.assertEqual(plain_fronts(text), fronts)

    def test_other_numbers_wherever_they_stand(self):
        for number in (-1, -2, -255, -256, -257, 256, 257, 1000, GREAT, -GREAT):
            for many in (1, 2, 3, 9, 400):
                for place in sorted({0, many // 2, many - 1}):
                    fronts = [5] * many
                    fronts[place] = number
                    with self.subTest(number=number, many=many, place=place), self.assertRaises(Broken):
                        text_by_fronts(fronts)


class RunsOf(unittest.TestCase):
    def test_no_numbers(self):
        self.assertEqual(runs_of([]), [])

    def test_ordinary(self):
        self.assertEqual(runs_of([7]), [(7, 1)])
        self.assertEqual(runs_of([7, 7, 7]), [(7, 3)])
        self.assertEqual(runs_of([7, 7, 0, 7]), [(7, 2), (0, 1), (7, 1)])
        self.assertEqual(runs_of([0, 0, 1, 1, 1]), [(0, 2), (1, 3)])
        self.assertEqual(runs_of([5] * 400), [(5, 400)])

    def test_below_nought_and_great(self):
        self.assertEqual(runs_of([-1, -1, 1, -1]), [(-1, 2), (1, 1), (-1, 1)])
        self.assertEqual(runs_of([GREAT, GREAT - 0, -GREAT, GREAT - 1]), [(GREAT, 2), (-GREAT, 1), (GREAT - 1, 1)])
        self.assertEqual(runs_of([10 ** 59, int("1" + "0" * 59)]), [(10 ** 59, 2)])

    def test_every_short_list(self):
        for numbers in all_lists([-1, 0, 300], 7):
            self.assertEqual(runs_of(numbers), plain_runs(numbers))

    def test_many_numbers(self):
        # Lists that are no texts may have up to ten thousand things.
        chance = random.Random(5)
        numbers = chance.choices([1, 2], k=10000)
        self.assertEqual(runs_of(numbers), plain_runs(numbers))
        self.assertEqual(runs_of([3] * 10000), [(3, 10000)])

    def test_no_two_neighbours_alike_and_times_from_one_on(self):
        chance = random.Random(6)
        for turn in range(80):
            numbers = chance.choices([-GREAT, -1, 0, 1, GREAT], k=chance.randrange(60))
            runs = runs_of(numbers)
            self.assertTrue(all(times >= 1 for number, times in runs))
            self.assertTrue(all(one[0] != other[0] for one, other in zip(runs, runs[1:])))

    def test_a_list_of_tuples_is_told(self):
        told = runs_of([4, 4, 5])
        self.assertIs(type(told), list)
        self.assertEqual([type(run) for run in told], [tuple, tuple])


class NumbersByRuns(unittest.TestCase):
    def refused(self, runs):
        with self.subTest(runs=runs[:4], many=len(runs)), self.assertRaises(Broken):
            numbers_by_runs(runs)

    def test_no_runs(self):
        self.assertEqual(numbers_by_runs([]), [])

    def test_ordinary(self):
        self.assertEqual(numbers_by_runs([(7, 2), (0, 1), (7, 1)]), [7, 7, 0, 7])
        self.assertEqual(numbers_by_runs([(-3, 1), (GREAT, 3), (-GREAT, 1)]), [-3, GREAT, GREAT, GREAT, -GREAT])

    def test_there_and_back(self):
        for numbers in all_lists([-1, 0, GREAT], 7):
            self.assertEqual(numbers_by_runs(runs_of(numbers)), numbers)
        chance = random.Random(7)
        for turn in range(60):
            numbers = chance.choices([-GREAT, -1, 0, 255, GREAT], k=chance.randrange(401))
            self.assertEqual(numbers_by_runs(runs_of(numbers)), numbers)

    def test_times_below_one(self):
        for times in (0, -1, -2, -400, -GREAT):
            self.refused([(4, times)])
            self.refused([(4, times), (5, 2)])
            self.refused([(5, 2), (4, times)])
            self.refused([(5, 2), (4, times), (5, 1)])
            self.refused([(5, 400), (4, times)])

    def test_like_neighbours(self):
        self.refused([(4, 1), (4, 1)])
        self.refused([(4, 2), (4, 3), (5, 1)])
        self.refused([(5, 1), (4, 2), (4, 3)])
        self.refused([(0, 1), (0, 1)])
        self.refused([(-1, 1), (-1, 2)])
        self.refused([(GREAT, 1), (int("9" * 60), 1)])
        self.assertEqual(numbers_by_runs([(4, 1), (5, 1), (4, 1)]), [4, 5, 4])

    def test_four_hundred_and_more(self):
        self.assertEqual(numbers_by_runs([(9, 400)]), [9] * 400)
        self.refused([(9, 401)])
        self.assertEqual(numbers_by_runs([(9, 399), (8, 1)]), [9] * 399 + [8])
        self.refused([(9, 400), (8, 1)])
        self.refused([(9, 399), (8, 2)])
        self.refused([(9, 1), (8, 400)])
        singles = [(k % 2, 1) for k in range(400)]
        self.assertEqual(numbers_by_runs(singles), [0, 1] * 200)
        self.refused(singles + [(0, 1)])
        self.refused(runs_of([1, 2] * 5000))

    def test_very_great_times(self):
        for times in (10 ** 9, 2 ** 31, 2 ** 63 - 1, 2 ** 63, 10 ** 30, GREAT):
            self.refused([(9, times)])
            self.refused([(8, 1), (9, times)])
            self.refused([(9, times), (8, 1)])
            self.refused([(9, times), (8, -times)])

    def test_any_short_runs(self):
        read = 0
        for runs in all_lists(list(itertools.product([0, 5], [-1, 0, 1, 2, 200, 201])), 3):
            if is_broken(runs):
                self.refused(runs)
            else:
                self.assertEqual(runs_of(numbers_by_runs(runs)), runs)
                read += 1
        self.assertGreater(read, 20)


class HandedInAndTold(unittest.TestCase):
    def test_what_is_handed_in_stays(self):
        text = [3, 3, 0, 255, 3]
        runs = [(3, 2), (0, 1), (3, 1)]
        fronts_of(text)
        text_by_fronts(text)
        runs_of(text)
        numbers_by_runs(runs)
        self.assertEqual(text, [3, 3, 0, 255, 3])
        self.assertEqual(runs, [(3, 2), (0, 1), (3, 1)])

    def test_what_is_refused_stays(self):
        for fronts in ([3, -1, 3], [3, 3, 256]):
            kept = list(fronts)
            with self.assertRaises(Broken):
                text_by_fronts(fronts)
            self.assertEqual(fronts, kept)
        for runs in ([(3, 2), (3, 1)], [(3, 2), (4, 0)], [(3, 2), (4, 399)]):
            kept = list(runs)
            with self.assertRaises(Broken):
                numbers_by_runs(runs)
            self.assertEqual(runs, kept)

    def test_what_is_told_is_the_askers_own(self):
        text = [3, 3, 0, 255, 3]
        runs = [(3, 2), (0, 1)]
        asked = [
            lambda: fronts_of([]),
            lambda: fronts_of([0]),
            lambda: fronts_of(text),
            lambda: text_by_fronts([]),
            lambda: text_by_fronts([0]),
            lambda: text_by_fronts(text),
            lambda: runs_of([]),
            lambda: runs_of(text),
            lambda: numbers_by_runs([]),
            lambda: numbers_by_runs([(4, 1)]),
            lambda: numbers_by_runs(runs),
        ]
        for ask in asked:
            first = ask()
            kept = list(first)
            second = ask()
            self.assertIsNot(first, second)
            first.append(3)
            first[0] = 9
            self.assertEqual(second, kept)
            self.assertEqual(ask(), kept)
        self.assertEqual(text, [3, 3, 0, 255, 3])
        self.assertEqual(runs, [(3, 2), (0, 1)])

    def test_what_is_told_is_not_what_was_handed_in(self):
        # These are told as they were handed in, but as other lists.
        noughts = [0, 0]
        self.assertIsNot(fronts_of(noughts), noughts)
        self.assertIsNot(text_by_fronts(noughts), noughts)
        for tell in (fronts_of, text_by_fronts, runs_of, numbers_by_runs):
            nothing = []
            self.assertIsNot(tell(nothing), nothing)


if __name__ == "__main__":
    unittest.main()
