"""Words of bits: counts of signs, the least lengths, and texts packed by words."""

from packhall.bits import low_bits, number_of
from packhall.errors import Broken, NoCode
from packhall.signs import LAST_SIGN

LONGEST_WORD = 256


def counts_of(text):
    times = {}
    for sign in text:
        times[sign] = times.get(sign, 0) + 1
    return [(sign, times[sign]) for sign in sorted(times)]


def signs_rise(pairs):
    ahead = -1
    for sign, number in pairs:
        if sign <= ahead or sign > LAST_SIGN:
            return False
        ahead = sign
    return True


def joinings_of(counts):
    # Weight ahead of number: so the lightest come first, and of these the earliest made.
    there = [(counts[place][1], place) for place in range(len(counts))]
    joinings = []
    while len(there) > 1:
        there = sorted(there)
        one = there[0]
        two = there[1]
        made = len(counts) + len(joinings)
        joinings.append((min(one[1], two[1]), max(one[1], two[1])))
        there = there[2:] + [(one[0] + two[0], made)]
    return joinings


def depths_by(counts, joinings):
    many = len(counts)
    # A sign alone is never joined, but a word of no bits could not be counted.
    if many == 1:
        return [(counts[0][0], 1)]
    depths = [0] * (many + len(joinings))
    # What is made last is in nothing, so from there the depths are known backwards.
    for k in range(len(joinings) - 1, -1, -1):
        for thing in joinings[k]:
            depths[thing] = depths[many + k] + 1
    return [(counts[place][0], depths[place]) for place in range(many)]


def least_lengths(counts):
    return depths_by(counts, joinings_of(counts))


def are_counts(counts):
    return signs_rise(counts) and all([times >= 1 for sign, times in counts])


def may_be_joined(weights, i, j):
    if i >= j or i not in weights or j not in weights:
        return False
    heavier = max(weights[i], weights[j])
    return all([weights[thing] >= heavier for thing in weights if thing != i and thing != j])


def are_joinings(counts, joinings):
    if len(joinings) != max(len(counts) - 1, 0):
        return False
    weights = {}
    for sign, times in counts:
        weights[len(weights)] = times
    made = len(counts)
    for i, j in joinings:
        if not may_be_joined(weights, i, j):
            return False
        weights[made] = weights.pop(i) + weights.pop(j)
        made = made + 1
    return True


def joinings_show(counts, joinings, lengths):
    if not are_counts(counts) or not are_joinings(counts, joinings):
        return False
    return lengths == depths_by(counts, joinings)


def have_room(lengths):
    times = {}
    for sign, length in lengths:
        times[length] = times.get(length, 0) + 1
    # Of all rows of so many bits, room counts those that no word begins or is.
    room = 1
    for length in range(1, LONGEST_WORD + 1):
        room = 2 * room - times.get(length, 0)
        if room < 0:
            return False
    return True


def can_be_words(lengths):
    if not signs_rise(lengths):
        return False
    if not all([1 <= length <= LONGEST_WORD for sign, length in lengths]):
        return False
    return have_room(lengths)


def next_word(word, length):
    behind = low_bits(number_of(word) + 1, len(word))
    return behind + [0] * (length - len(word))


def words_by(lengths):
    if not can_be_words(lengths):
        raise NoCode("there are no words of these lengths")
    words = {}
    word = []
    for length, sign in sorted([(length, sign) for sign, length in lengths]):
        if len(words) == 0:
            word = [0] * length
        else:
            word = next_word(word, length)
        words[sign] = word
    return [(sign, words[sign]) for sign, length in lengths]


def coded(text, lengths):
    words = dict(words_by(lengths))
    bits = []
    for sign in text:
        if sign not in words:
            raise NoCode("a sign has no word")
        bits.extend(words[sign])
    return bits


def read_word(bits, at, words):
    for sign, word in words:
        behind = at + len(word)
        if bits[at:behind] == word:
            return (sign, behind)
    raise Broken("no word stands there")


def decoded(bits, at, lengths, many):
    words = words_by(lengths)
    if at < 0 or at > len(bits):
        raise Broken("there is no such place")
    text = []
    behind = at
    while len(text) < many:
        found = read_word(bits, behind, words)
        text.append(found[0])
        behind = found[1]
    return (text, behind)
