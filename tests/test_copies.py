"""Promises 2, 3, 15 and 16: tellings by signs and copies."""

import itertools
import random
import unittest

from packhall.copies import copies_of, is_longest, text_by_copies
from packhall.errors import Broken

GREAT = 10 ** 60 - 1
# Back and times may have whatever figures.
GREATER = 10 ** 300


def all_texts(signs, most):
    for many in range(most + 1):
        for text in itertools.product(signs, repeat=many):
            yield list(text)


def signs(text):
    return [("sign", sign) for sign in text]


def plain_read(telling):
    """The text of a good telling, straight by the words of the document."""
    text = []
    for thing in telling:
        if thing[0] == "sign":
            text.append(thing[1])
        else:
            for k in range(thing[2]):
                text.append(text[-thing[1]])
    return text


def plain_longest(telling):
    """Whether a good telling is a longest one of its own text, straight by the words of the document."""
    text = plain_read(telling)
    for number, thing in enumerate(telling[:-1]):
        at = len(plain_read(telling[:number]))
        behind = len(plain_read(telling[:number + 1]))
        if thing[0] == "sign":
            if thing[1] in text[:at]:
                return False
        else:
            longer = text[at:behind + 1]
            for begin in range(at):
                if text[begin:begin + len(longer)] == longer:
                    return False
    return True


def all_tellings(letters, most):
    """Every good telling of at most so many signs."""
    found = []
    fresh = [[]]
    while fresh:
        found += fresh
        longer = []
        for telling in fresh:
            many = len(plain_read(telling))
            if many < most:
                longer += [telling + [("sign", letter)] for letter in letters]
            for back in range(1, many + 1):
                longer += [telling + [("copy", back, times)] for times in range(1, most - many + 1)]
        fresh = longer
    return found


def fewest_by_places(text):
    """How many tuples are enough, by the fewest ones for each beginning of the text and every copy and sign."""
    many = len(text)
    # How far a copy that begins at one place can go on for another one, from the end backwards.
    alike = [[0] * (many + 1) for at in range(many + 1)]
    for begin in range(many - 1, -1, -1):
        for at in range(many - 1, begin, -1):
            if text[begin] == text[at]:
                alike[begin][at] = alike[begin + 1][at + 1] + 1
    fewest = [0] + [many] * many
    for at in range(many):
        times = max([1] + [alike[begin][at] for begin in range(at)])
        for behind in range(at + 1, at + times + 1):
            fewest[behind] = min(fewest[behind], fewest[at] + 1)
    return fewest[many]


def fibonacci_text(many):
    one, two = [7], [7, 3]
    while len(two) < many:
        one, two = two, two + one
    return two[:many]


def texts_of_chance(seed, many, most, letters):
    chance = random.Random(seed)
    return [[chance.choice(letters) for k in range(chance.randrange(most + 1))] for turn in range(many)]


LONG = [
    [0] * 400,
    [255] * 399,
    [1, 2] * 200,
    [1, 2, 3] * 133 + [4],
    [8] + [9] * 398 + [8],
    list(range(256)) + list(range(144)),
    list(range(200)) + list(range(199, -1, -1)),
    fibonacci_text(400),
    random.Random(1).choices(range(256), k=400),
    random.Random(2).choices([0, 255], k=400),
    random.Random(3).choices([10, 11, 12], k=397),
]


class TextByCopies(unittest.TestCase):
    def refused(self, telling):
        with self.subTest(telling=telling), self.assertRaises(Broken):
            text_by_copies(telling)

    def test_no_tuples(self):
        self.assertEqual(text_by_copies([]), [])

    def test_signs(self):
        self.assertEqual(text_by_copies(signs([0, 255, 7, 7])), [0, 255, 7, 7])

    def test_copies(self):
        self.assertEqual(text_by_copies(signs([1, 2, 3]) + [("copy", 3, 2)]), [1, 2, 3, 1, 2])
        self.assertEqual(text_by_copies(signs([1, 2, 3]) + [("copy", 1, 1)]), [1, 2, 3, 3])
        self.assertEqual(text_by_copies(signs([1, 2, 3]) + [("copy", 2, 2), ("sign", 9), ("copy", 6, 1)]),
                         [1, 2, 3, 2, 3, 9, 1])

    def test_copies_that_overlap_themselves(self):
        self.assertEqual(text_by_copies([("sign", 5), ("copy", 1, 6)]), [5] * 7)
        self.assertEqual(text_by_copies(signs([1, 2]) + [("copy", 2, 5)]), [1, 2, 1, 2, 1, 2, 1])
        self.assertEqual(text_by_copies(signs([1, 2, 3]) + [("copy", 2, 5)]), [1, 2, 3, 2, 3, 2, 3, 2])

    def test_every_short_telling(self):
        for telling in all_tellings([0, 255], 4):
            self.assertEqual(text_by_copies(telling), plain_read(telling))

    def test_farther_back_than_there_are_signs(self):
        for back in (1, 2, GREAT, GREATER):
            self.refused([("copy", back, 1)])
        for back in (3, 4, 400, GREAT, GREATER):
            self.refused(signs([1, 2]) + [("copy", back, 1)])
            self.refused(signs([1, 2]) + [("copy", back, 5)])
        self.assertEqual(text_by_copies(signs([1, 2]) + [("copy", 2, 1)]), [1, 2, 1])
        # Also one that would reach such a place only behind its first signs is counted from its own end.
        self.refused([("sign", 1), ("copy", 2, 2), ("sign", 3)])

    def test_back_and_times_below_one(self):
        for number in (0, -1, -2, -GREAT, -GREATER):
            self.refused(signs([1, 2]) + [("copy", number, 1)])
            self.refused(signs([1, 2]) + [("copy", 1, number)])
            self.refused(signs([1, 2]) + [("copy", number, number)])

    def test_great_figures(self):
        for number in (401, 10 ** 9, GREAT, GREATER):
            self.refused([("sign", 1), ("copy", 1, number)])
            self.refused([("sign", 1), ("copy", number, 1)])
            self.refused([("sign", 1), ("copy", number, number)])

    def test_what_is_no_sign(self):
        for number in (-1, 256, 257, GREAT, -GREAT):
            self.refused([("sign", number)])
            self.refused([("sign", 1), ("sign", number), ("sign", 2)])

    def test_what_is_neither(self):
        for thing in (("word", 1), ("Sign", 1), ("sign",), ("sign", 1, 2), ("sign", 1, 1, 1), ("copy",), ("copy", 1),
                      ("copy", 1, 1, 1), ("", 1), (), (1,), (1, 1), (1, 1, 1), ("copy", "sign", 1), ("sign", "1"),
                      ("sign", None), ("copy", None, 1), ("copy", 1, None), ("sign", True), ("sign", False),
                      ("copy", True, 1), ("copy", 1, True), ["sign", 1], ["copy", 1, 1], 5, None, "sign", True,
                      ("copy", "1", 1), ("sign", [1]), ("copy", [1], 1), {"sign": 1}):
            self.refused([thing])
            self.refused([("sign", 1), thing])
            self.refused([("sign", 1), thing, ("sign", 2)])

    def test_four_hundred_signs_and_more(self):
        for telling in ([("sign", 5), ("copy", 1, 399)], signs([1, 2] * 200), signs([1] * 399) + [("copy", 399, 1)],
                        [("sign", 5), ("copy", 1, 199), ("copy", 200, 200)]):
            text = text_by_copies(telling)
            self.assertEqual(text, plain_read(telling))
            self.assertEqual(len(text), 400)
            for more in (("sign", 5), ("copy", 1, 1), ("copy", 400, 1), ("copy", 1, 400), ("copy", 1, GREAT)):
                self.refused(telling + [more])
                self.refused([("sign", 0)] + telling)
        self.refused([("sign", 5), ("copy", 1, 400)])
        self.refused(signs([0] * 401))
        self.refused(signs([0] * 5000))

    def test_many_tuples_that_double(self):
        self.refused([("sign", 5)] + [("copy", 1, 10 ** k) for k in range(60)])


class CopiesOf(unittest.TestCase):
    def look_at(self, text):
        telling = copies_of(text)
        self.assertIs(type(telling), list)
        self.assertTrue(all(type(thing) is tuple for thing in telling))
        self.assertEqual(text_by_copies(telling), text)
        self.assertEqual(plain_read(telling), text)
        self.assertIs(is_longest(text, telling), True)
        self.assertEqual(len(telling), fewest_by_places(text))

    def test_no_signs(self):
        self.assertEqual(copies_of([]), [])

    def test_one_sign(self):
        for sign in (0, 97, 255):
            self.assertEqual(copies_of([sign]), [("sign", sign)])

    def test_ordinary(self):
        self.assertEqual(copies_of([5] * 7), [("sign", 5), ("copy", 1, 6)])
        self.assertEqual(copies_of([1, 2, 1, 2, 1]), [("sign", 1), ("sign", 2), ("copy", 2, 3)])
        self.assertEqual(copies_of([1, 2, 3]), signs([1, 2, 3]))

    def test_of_alike_copies_the_nearest(self):
        # The document leaves it free; small numbers are written by fewer bits.
        self.assertEqual(copies_of([1, 2, 1, 3, 1]),
                         [("sign", 1), ("sign", 2), ("copy", 2, 1), ("sign", 3), ("copy", 2, 1)])
        self.assertEqual(copies_of([1, 1, 1, 1, 2, 1, 1]), [("sign", 1), ("copy", 1, 3), ("sign", 2), ("copy", 3, 2)])

    def test_as_few_as_any_by_trying_all(self):
        for letters, most in (([0, 1], 6), ([0, 1, 2], 5)):
            fewest = {}
            for telling in all_tellings(letters, most):
                text = tuple(plain_read(telling))
                fewest[text] = min(fewest.get(text, len(telling)), len(telling))
            for text in all_texts(letters, most):
                self.assertEqual(len(copies_of(text)), fewest[tuple(text)])
                self.look_at(text)

    def test_short_texts(self):
        for text in list(all_texts([0, 255], 9)) + list(all_texts([3, 4, 5], 6)):
            self.look_at(text)

    def test_texts_of_chance(self):
        for text in texts_of_chance(4, 60, 120, [3, 200]) + texts_of_chance(5, 60, 120, [1, 2, 3, 4, 5]):
            self.look_at(text)

    def test_long_texts(self):
        for text in LONG:
            self.look_at(text)


class IsLongest(unittest.TestCase):
    def test_ordinary(self):
        for text, telling, truth in (
            ([], [], True),
            ([5], [], False),
            ([], [("sign", 5)], False),
            ([5], [("sign", 5)], True),
            ([5], [("sign", 6)], False),
            # The last tuple may be any that leads to the text.
            ([5, 5], [("sign", 5), ("sign", 5)], True),
            ([5, 5], [("sign", 5), ("copy", 1, 1)], True),
            ([5, 5, 5], [("sign", 5), ("copy", 1, 2)], True),
            ([5, 5, 5], [("sign", 5), ("copy", 1, 1), ("copy", 1, 1)], False),
            ([5, 5, 5], [("sign", 5), ("copy", 1, 1), ("sign", 5)], False),
            ([5, 5, 5], [("sign", 5), ("sign", 5), ("sign", 5)], False),
            # A copy that with the sign behind it would be one of something earlier.
            ([1, 2, 3, 1, 2, 3], signs([1, 2, 3]) + [("copy", 3, 2), ("copy", 3, 1)], False),
            ([1, 2, 3, 1, 2, 3], signs([1, 2, 3]) + [("copy", 3, 3)], True),
            # Another one than the nearest is as good.
            ([1, 2, 1, 3, 1, 2, 1], signs([1, 2]) + [("copy", 2, 1), ("sign", 3), ("copy", 4, 3)], True),
            ([1, 1, 2, 1], [("sign", 1), ("copy", 1, 1), ("sign", 2), ("copy", 3, 1)], True),
            ([1, 1, 2, 1], [("sign", 1), ("copy", 1, 1), ("sign", 2), ("copy", 2, 1)], True),
            # A sign that stands ahead already.
            ([1, 1, 2], [("sign", 1), ("sign", 1), ("sign", 2)], False),
            ([1, 1, 2], [("sign", 1), ("copy", 1, 1), ("sign", 2)], True),
        ):
            with self.subTest(text=text, telling=telling):
                self.assertIs(is_longest(text, telling), truth)

    def test_every_telling_of_short_texts(self):
        for letters, most in (([0, 1], 6), ([0, 1, 2], 4)):
            tellings = all_tellings(letters, most)
            fewest = {}
            for telling in tellings:
                text = tuple(plain_read(telling))
                fewest[text] = min(fewest.get(text, len(telling)), len(telling))
            for telling in tellings:
                text = plain_read(telling)
                told = is_longest(text, telling)
                self.assertIs(told, plain_longest(telling))
                if told:
                    self.assertEqual(len(telling), fewest[tuple(text)])

    def test_tellings_of_other_texts(self):
        texts = list(all_texts([0, 1], 5))
        for text in texts:
            telling = copies_of(text)
            for other in texts:
                self.assertIs(is_longest(other, telling), other == text)

    def test_long_texts(self):
        for text in LONG:
            telling = copies_of(text)
            self.assertIs(is_longest(text, telling), True)
            self.assertIs(is_longest(text[:-1], telling), False)
            self.assertIs(is_longest(text[1:], telling), False)
            self.assertIs(is_longest(text[:-1] + [(text[-1] + 1) % 256], telling), False)
            self.assertIs(is_longest(text, telling[:-1]), False)
            self.assertIs(is_longest(text, telling + [("sign", 5)]), False)
            # By signs alone all stands twice, but where no sign does.
            self.assertIs(is_longest(text, signs(text)), False)

    def test_a_copy_cut_in_two(self):
        for text in LONG + texts_of_chance(6, 40, 60, [1, 2]):
            telling = copies_of(text)
            for number, thing in enumerate(telling):
                if thing[0] == "copy" and thing[2] > 1:
                    parts = [("copy", thing[1], 1), ("copy", thing[1], thing[2] - 1)]
                    self.assertIs(is_longest(text, telling[:number] + parts + telling[number + 1:]), False)
                    break

    def test_broken_tellings(self):
        for telling in ([("copy", 1, 1)], [("sign", 5), ("copy", 2, 1)], [("sign", 5), ("copy", 0, 1)],
                        [("sign", 5), ("copy", 1, 0)], [("sign", 5), ("copy", -1, 1)], [("sign", 5), ("copy", 1, -1)],
                        [("sign", -1)], [("sign", 256)], [("sign", 5), ("copy", 1, GREATER)],
                        [("sign", 5), ("copy", GREATER, 1)], [("sign", 5), ("copy", -GREATER, -GREATER)],
                        [("word", 5)], [("sign",)], [("copy", 1)], [("sign", 5, 5)], [()],
                        signs([5] * 401), [("sign", 5), ("copy", 1, 400)]):
            for text in ([], [5], [5, 5], [5, 5, 5], [0], [255], [5] * 400):
                with self.subTest(telling=telling[:3], many=len(text)):
                    self.assertIs(is_longest(text, telling), False)

    def test_numbers_that_are_no_signs_are_no_text(self):
        self.assertIs(is_longest([256], [("sign", 256)]), False)
        self.assertIs(is_longest([-1], [("sign", -1)]), False)

    def test_tuples_of_chance(self):
        chance = random.Random(7)
        truths = 0
        for turn in range(4000):
            text = [chance.choice([1, 2]) for k in range(chance.randrange(5))]
            telling = []
            for k in range(chance.randrange(5)):
                if chance.random() < 0.5:
                    telling.append(("sign", chance.choice([1, 2])))
                else:
                    telling.append(("copy", chance.randrange(4), chance.randrange(4)))
            try:
                truth = text_by_copies(telling) == text and plain_longest(telling)
            except Broken:
                truth = False
            self.assertIs(is_longest(text, telling), truth)
            truths += truth
        self.assertGreater(truths, 50)


class HandedInAndTold(unittest.TestCase):
    def test_what_is_handed_in_stays(self):
        text = [1, 2, 1, 2, 1, 3]
        telling = copies_of(text)
        kept = list(telling)
        text_by_copies(telling)
        is_longest(text, telling)
        is_longest([1, 2], telling)
        self.assertEqual((text, telling), ([1, 2, 1, 2, 1, 3], kept))

    def test_what_is_refused_stays(self):
        for telling in ([("sign", 1), ("copy", 2, 1)], [("sign", 1), ("copy", 1, 400)], [("sign", 1), ("word", 1)]):
            kept = list(telling)
            with self.assertRaises(Broken):
                text_by_copies(telling)
            is_longest([1, 1], telling)
            self.assertEqual(telling, kept)

    def test_what_is_told_is_the_askers_own(self):
        asked = [
            lambda: copies_of([]),
            lambda: copies_of([4]),
            lambda: copies_of([4, 5, 4, 5]),
            lambda: text_by_copies([]),
            lambda: text_by_copies([("sign", 4)]),
            lambda: text_by_copies([("sign", 4), ("copy", 1, 3)]),
        ]
        for ask in asked:
            first = ask()
            kept = list(first)
            second = ask()
            self.assertIsNot(first, second)
            first.append(3)
            first[0] = 9
            self.assertEqual(second, kept)
            self.assertEqual(ask(), kept)


if __name__ == "__main__":
    unittest.main()
