"""What whole numbers, signs, bits, pairs and stretches are, as several modules ask it."""

from packhall.errors import Broken, NoPlace

LAST_SIGN = 255
MOST_SIGNS = 400


def is_whole(thing):
    # True and False are ints to Python, but no whole numbers here.
    return isinstance(thing, int) and not isinstance(thing, bool)


def is_sign(thing):
    return is_whole(thing) and 0 <= thing <= LAST_SIGN


def are_signs(things):
    return all([is_sign(thing) for thing in things])


def are_bits(things):
    return all([is_whole(thing) and 0 <= thing <= 1 for thing in things])


def unpaired(pairs):
    numbers = []
    for one, two in pairs:
        numbers.extend([one, two])
    return numbers


def paired(numbers):
    if len(numbers) % 2 == 1:
        raise Broken("a number is without its other one")
    return [(numbers[at], numbers[at + 1]) for at in range(0, len(numbers), 2)]


def refuse_no_stretch(first, last, length):
    if first < 0 or first > last or last > length:
        raise NoPlace("there is no such stretch")
