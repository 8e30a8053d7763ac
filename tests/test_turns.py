"""Promises 2, 3, 10 and 11: endings in order, turned texts and the way back."""

import itertools
import random
import unittest

from packhall.errors import Broken
from packhall.turns import endings_of, turned_back, turned_text


def all_texts(signs, most):
    for many in range(most + 1):
        for text in itertools.product(signs, repeat=many):
            yield list(text)


def comes_ahead(one, other):
    """Whether a list comes ahead of another one, sign by sign, the beginning of a list ahead of the list."""
    for a, b in zip(one, other):
        if a != b:
            return a < b
    return len(one) < len(other)


def plain_turned(text):
    """The turned text, straight by the words of the document, by counting the endings ahead of each ending."""
    endings = [text[at:] for at in range(len(text) + 1)]
    column = [None] * len(endings)
    for at, ending in enumerate(endings):
        rank = sum(comes_ahead(other, ending) for other in endings)
        column[rank] = text[at - 1] if at > 0 else "hole"
    hole = column.index("hole")
    return (column[:hole] + column[hole + 1:], hole)


def texts_of_chance(seed, many, most, signs):
    chance = random.Random(seed)
    return [[chance.choice(signs) for k in range(chance.randrange(most + 1))] for turn in range(many)]


def fibonacci_text(many):
    one, two = [7], [7, 3]
    while len(two) < many:
        one, two = two, two + one
    return two[:many]


LONG = [
    [0] * 400,
    [255] * 400,
    [5] * 399 + [4],
    [5] * 399 + [6],
    [4] + [5] * 399,
    [6] + [5] * 399,
    [1, 2] * 200,
    [2, 1] * 200,
    [9, 9, 8] * 133 + [9],
    list(range(256)) + list(range(144)),
    list(range(255, -1, -1)) + list(range(143, -1, -1)),
    fibonacci_text(400),
    random.Random(1).choices(range(256), k=400),
    random.Random(2).choices([0, 255], k=400),
    random.Random(3).choices([10, 11, 12], k=400),
]


class EndingsOf(unittest.TestCase):
    def test_no_signs(self):
        self.assertEqual(endings_of([]), [0])

    def test_one_sign(self):
        for sign in (0, 1, 97, 255):
            self.assertEqual(endings_of([sign]), [1, 0])

    def test_ordinary(self):
        self.assertEqual(endings_of([2, 1]), [2, 1, 0])
        self.assertEqual(endings_of([1, 2]), [2, 0, 1])
        self.assertEqual(endings_of([ord(letter) for letter in "banana"]), [6, 5, 3, 1, 0, 4, 2])

    def test_all_alike(self):
        for many in (2, 3, 17, 400):
            for sign in (0, 8, 255):
                self.assertEqual(endings_of([sign] * many), list(range(many, -1, -1)))

    def test_signs_are_ordered_as_numbers(self):
        # As texts in letters "10" would come ahead of "9".
        self.assertEqual(endings_of([100, 9, 10]), [3, 1, 2, 0])

    def look_at_the_order(self, text):
        places = endings_of(text)
        self.assertEqual(sorted(places), list(range(len(text) + 1)))
        self.assertEqual(places[0], len(text))
        for one, other in zip(places, places[1:]):
            self.assertTrue(comes_ahead(text[one:], text[other:]))

    def test_every_short_text(self):
        for text in all_texts([0, 1, 255], 6):
            self.look_at_the_order(text)

    def test_long_texts(self):
        for text in LONG:
            self.look_at_the_order(text)

    def test_texts_of_chance(self):
        for text in texts_of_chance(4, 60, 90, [3, 4, 200]) + texts_of_chance(5, 40, 90, range(256)):
            self.look_at_the_order(text)

    def test_a_list_of_whole_numbers_is_told(self):
        for text in ([], [5], [5, 3, 5]):
            told = endings_of(text)
            self.assertIs(type(told), list)
            self.assertTrue(all(type(place) is int for place in told))


class TurnedText(unittest.TestCase):
    def test_no_signs(self):
        self.assertEqual(turned_text([]), ([], 0))

    def test_one_sign(self):
        for sign in (0, 1, 97, 255):
            self.assertEqual(turned_text([sign]), ([sign], 1))

    def test_ordinary(self):
        letters = [ord(letter) for letter in "banana"]
        # Endings: none, a, ana, anana, banana, na, nana; ahead of them: a, n, n, b, the hole, a, a.
        self.assertEqual(turned_text(letters), ([ord(letter) for letter in "annbaa"], 4))
        self.assertEqual(turned_text([1, 2]), ([2, 1], 1))
        self.assertEqual(turned_text([2, 1]), ([1, 2], 2))

    def test_all_alike(self):
        for many in (1, 2, 3, 400):
            self.assertEqual(turned_text([6] * many), ([6] * many, many))

    def test_every_short_text(self):
        for text in all_texts([0, 7, 255], 6):
            self.assertEqual(turned_text(text), plain_turned(text))

    def test_texts_of_chance(self):
        for text in texts_of_chance(6, 60, 60, [3, 4, 200]) + texts_of_chance(7, 40, 60, range(256)):
            self.assertEqual(turned_text(text), plain_turned(text))

    def test_long_texts(self):
        for text in LONG:
            self.assertEqual(turned_text(text), plain_turned(text))

    def test_a_tuple_of_a_list_and_a_number_is_told(self):
        for text in ([], [4], [4, 1, 4]):
            told = turned_text(text)
            self.assertIs(type(told), tuple)
            self.assertEqual([type(part) for part in told], [list, int])


class TurnedBack(unittest.TestCase):
    def refused(self, row, hole):
        with self.subTest(row=row[:12], hole=hole), self.assertRaises(Broken):
            turned_back(row, hole)

    def test_no_signs(self):
        self.assertEqual(turned_back([], 0), [])

    def test_one_sign(self):
        self.assertEqual(turned_back([5], 1), [5])
        self.refused([5], 0)

    def test_ordinary(self):
        row = [ord(letter) for letter in "annbaa"]
        self.assertEqual(turned_back(row, 4), [ord(letter) for letter in "banana"])

    def test_there_and_back_for_every_short_text(self):
        for text in all_texts([0, 7, 255], 7):
            row, hole = turned_text(text)
            self.assertEqual(turned_back(row, hole), text)

    def test_there_and_back_for_long_texts(self):
        for text in LONG + texts_of_chance(8, 60, 400, [3, 4, 200]) + texts_of_chance(9, 60, 400, range(256)):
            row, hole = turned_text(text)
            self.assertEqual(turned_back(row, hole), text)

    def test_every_row_of_few_signs_with_every_hole(self):
        for signs, most in (([0, 255], 9), ([4, 5, 9], 6), ([0, 1, 2, 3], 5)):
            # Only texts with the row's own signs can have it.
            texts = {}
            for text in all_texts(signs, most):
                row, hole = plain_turned(text)
                texts[(tuple(row), hole)] = text
            refused = 0
            for row in all_texts(signs, most):
                for hole in range(len(row) + 1):
                    if (tuple(row), hole) in texts:
                        self.assertEqual(turned_back(row, hole), texts[(tuple(row), hole)])
                    else:
                        self.refused(row, hole)
                        refused += 1
            self.assertGreater(refused, len(texts))

    def test_holes_beyond_the_row(self):
        for row in ([], [5], [2, 1], [1, 2], [6] * 400):
            for hole in (-1, -2, -len(row) - 1, -10 ** 59, len(row) + 1, len(row) + 2, 10 ** 59):
                self.refused(row, hole)

    def test_a_hole_is_not_counted_from_the_end(self):
        row, hole = turned_text([3, 1, 2, 3, 1])
        self.assertEqual(turned_back(row, hole), [3, 1, 2, 3, 1])
        self.refused(row, hole - len(row))
        self.refused(row, hole - len(row) - 1)

    def test_a_walk_that_closes_too_early(self):
        self.refused([1, 2], 1)
        self.refused([2, 1], 2)
        self.refused([2, 1], 0)
        self.refused([6] * 400, 0)
        self.refused([6] * 400, 399)
        self.refused([6] * 400, 200)
        # All but the first sign would each stand ahead of itself.
        self.refused(list(range(256)), 1)

    def test_long_ones_of_which_one_thing_is_changed(self):
        for text in LONG:
            row, hole = turned_text(text)
            for place in (0, 1, 200, 399):
                changed = list(row)
                changed[place] = (changed[place] + 1) % 256
                self.look_at_any(changed, hole)
            for other in (0, 1, hole - 1, hole + 1, 399, 400):
                self.look_at_any(row, other)

    def look_at_any(self, row, hole):
        try:
            text = turned_back(row, hole)
        except Broken:
            return False
        self.assertEqual(turned_text(text), (row, hole))
        return True

    def test_rows_and_holes_of_chance(self):
        chance = random.Random(10)
        read = 0
        for row in texts_of_chance(11, 600, 8, [1, 2, 3, 250]):
            read += self.look_at_any(row, chance.randrange(len(row) + 1))
        self.assertGreater(read, 50)
        self.assertLess(read, 500)

    def test_numbers_that_are_no_signs(self):
        for number in (-1, -2, 256, 1000, -10 ** 59, 10 ** 59):
            for row, hole in (([number], 1), ([5, number], 2), ([number, 5], 2), ([number, 5], 1), ([5, number], 1)):
                self.refused(row, hole)
        for sign in (0, 255):
            self.assertEqual(turned_back([sign], 1), [sign])


class HandedInAndTold(unittest.TestCase):
    def test_what_is_handed_in_stays(self):
        text = [3, 1, 2, 3, 1]
        endings_of(text)
        turned_text(text)
        self.assertEqual(text, [3, 1, 2, 3, 1])
        row, hole = turned_text(text)
        kept = list(row)
        turned_back(row, hole)
        self.assertEqual(row, kept)

    def test_what_is_refused_stays(self):
        for row, hole in (([2, 1], 2), ([2, 1], 0), ([2, 1], -1), ([2, 1], 3), ([2, 256], 1)):
            kept = list(row)
            with self.assertRaises(Broken):
                turned_back(row, hole)
            self.assertEqual(row, kept)

    def test_what_is_told_is_the_askers_own(self):
        text = [3, 1, 2, 3, 1]
        row, hole = turned_text(text)
        asked = [
            lambda: endings_of([]),
            lambda: endings_of([4]),
            lambda: endings_of(text),
            lambda: turned_text([])[0],
            lambda: turned_text([4])[0],
            lambda: turned_text([4, 4])[0],
            lambda: turned_text(text)[0],
            lambda: turned_back([], 0),
            lambda: turned_back([4], 1),
            lambda: turned_back([4, 4], 2),
            lambda: turned_back(row, hole),
        ]
        for ask in asked:
            first = ask()
            kept = list(first)
            second = ask()
            self.assertIsNot(first, second)
            first.append(3)
            first[0] = 9
            self.assertEqual(second, kept)
            self.assertEqual(ask(), kept)
        self.assertEqual(text, [3, 1, 2, 3, 1])

    def test_what_is_told_is_not_what_was_handed_in(self):
        # These are told as they were handed in, but as other lists.
        text = [4, 4, 4]
        self.assertIsNot(turned_text(text)[0], text)
        self.assertIsNot(turned_back(text, 3), text)
        nothing = []
        self.assertIsNot(turned_text(nothing)[0], nothing)
        self.assertIsNot(turned_back(nothing, 0), nothing)


if __name__ == "__main__":
    unittest.main()
