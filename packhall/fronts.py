"""Fronts and runs: signs by their places in a row of all signs, and alike neighbours put together."""

from packhall.errors import Broken
from packhall.signs import LAST_SIGN

MOST_NUMBERS = 400


def put_first(signs, place):
    return [signs[place]] + signs[:place] + signs[place + 1:]


def fronts_of(text):
    signs = list(range(LAST_SIGN + 1))
    fronts = []
    for sign in text:
        place = signs.index(sign)
        fronts.append(place)
        signs = put_first(signs, place)
    return fronts


def text_by_fronts(fronts):
    signs = list(range(LAST_SIGN + 1))
    text = []
    for place in fronts:
        # A place below 0 would otherwise be counted from the end.
        if place < 0 or place > LAST_SIGN:
            raise Broken("no sign has such a place")
        signs = put_first(signs, place)
        text.append(signs[0])
    return text


def runs_of(numbers):
    runs = []
    for number in numbers:
        if len(runs) > 0 and runs[-1][0] == number:
            runs[-1] = (number, runs[-1][1] + 1)
        else:
            runs.append((number, 1))
    return runs


def numbers_by_runs(runs):
    numbers = []
    for number, times in runs:
        if times < 1:
            raise Broken("a run has no numbers")
        if len(numbers) > 0 and numbers[-1] == number:
            raise Broken("two neighbours are alike")
        # Asked ahead of putting them on: times may be too great for any list.
        if len(numbers) + times > MOST_NUMBERS:
            raise Broken("there are too many numbers")
        numbers.extend([number] * times)
    return numbers
