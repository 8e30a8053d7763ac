"""Exact shares: a text by its counts and by its number among all texts that have them."""

from packhall.bits import low_bits, number_of, read_row, row_bits
from packhall.codes import are_counts, counts_of
from packhall.errors import Broken
from packhall.signs import MOST_SIGNS, is_whole, paired, unpaired


def is_pair(thing):
    return isinstance(thing, tuple) and len(thing) == 2 and is_whole(thing[0]) and is_whole(thing[1])


def have_texts(counts):
    if not isinstance(counts, list) or not all([is_pair(thing) for thing in counts]):
        return False
    return are_counts(counts) and sum([times for sign, times in counts]) <= MOST_SIGNS


def orders_of(counts):
    orders = 1
    placed = 0
    for sign, times in counts:
        for k in range(1, times + 1):
            placed = placed + 1
            # Nothing is left over: k like signs among those placed have a whole number of orders at each step.
            orders = orders * placed // k
    return orders


def texts_with(counts):
    if not have_texts(counts):
        raise Broken("no text has such counts")
    return orders_of(counts)


def share_of(text):
    counts = counts_of(text)
    left = sorted(text)
    texts = orders_of(counts)
    number = 0
    # Of the texts that go on as this one did, each sign that is left begins a like part.
    for sign in text:
        many = len(left)
        number = number + texts * left.index(sign) // many
        texts = texts * left.count(sign) // many
        left.remove(sign)
    return (counts, number)


def signs_in_order(counts):
    signs = []
    for sign, times in counts:
        signs.extend([sign] * times)
    return signs


def text_by_share(counts, number):
    texts = texts_with(counts)
    if not is_whole(number) or number < 0 or number >= texts:
        raise Broken("no text has such a number")
    left = signs_in_order(counts)
    text = []
    rest = number
    while len(left) > 0:
        many = len(left)
        sign = left[rest * many // texts]
        rest = rest - texts * left.index(sign) // many
        texts = texts * left.count(sign) // many
        left.remove(sign)
        text.append(sign)
    return text


def bits_enough(texts):
    return (texts - 1).bit_length()


def share_bits(text):
    share = share_of(text)
    return row_bits(unpaired(share[0])) + low_bits(share[1], bits_enough(orders_of(share[0])))


def read_share(bits, at):
    head = read_row(bits, at)
    counts = paired(head[0])
    behind = head[1] + bits_enough(texts_with(counts))
    if behind > len(bits):
        raise Broken("the bits end within a number")
    return (text_by_share(counts, number_of(bits[head[1]:behind])), behind)
