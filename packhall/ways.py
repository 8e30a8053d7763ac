"""Ways: a text packed as bits by six ways, read back by each of them, and the best one."""

from packhall.bits import ending_bits, low_bits, number_of, read_ending, read_row, row_bits
from packhall.codes import can_be_words, coded, counts_of, decoded, least_lengths
from packhall.copies import copies_of, text_by_copies
from packhall.errors import Broken, NoName
from packhall.fronts import fronts_of, numbers_by_runs, runs_of, text_by_fronts
from packhall.grammars import grammar_of, grammar_text
from packhall.shares import read_share, share_bits
from packhall.signs import are_bits, paired, unpaired
from packhall.turns import turned_back, turned_text

WAYS = 6
SIGN_BITS = 8


def refuse_no_way(way):
    if way < 0 or way >= WAYS:
        raise NoName("there is no such way")


def packed_plainly(text):
    bits = []
    for sign in text:
        bits.extend(low_bits(sign, SIGN_BITS))
    return bits


def packed_by_words(text):
    lengths = least_lengths(counts_of(text))
    return row_bits(unpaired(lengths)) + coded(text, lengths)


def packed_by_turning(text):
    turned = turned_text(text)
    return ending_bits(turned[1] + 1) + row_bits(unpaired(runs_of(fronts_of(turned[0]))))


def pair_by_telling(thing):
    # No copy lies 0 places back, so 0 is free to mark a sign.
    return (thing[1], thing[2]) if thing[0] == "copy" else (0, thing[1])


def packed_by_copies(text):
    return row_bits(unpaired([pair_by_telling(thing) for thing in copies_of(text)]))


def packed_by_grammar(text):
    grammar = grammar_of(text)
    return row_bits([len(grammar[0])] + unpaired(grammar[0]) + grammar[1])


def packed_by(way, text):
    refuse_no_way(way)
    if way == 0:
        return packed_plainly(text)
    if way == 1:
        return packed_by_words(text)
    if way == 2:
        return packed_by_turning(text)
    if way == 3:
        return packed_by_copies(text)
    if way == 4:
        return packed_by_grammar(text)
    return share_bits(text)


def read_plainly(bits):
    if len(bits) % SIGN_BITS != 0:
        raise Broken("the bits end within a sign")
    text = [number_of(bits[at:at + SIGN_BITS]) for at in range(0, len(bits), SIGN_BITS)]
    return (text, len(bits))


def read_words(bits, many):
    head = read_row(bits, 0)
    lengths = paired(head[0])
    # Asked ahead of reading, which would refuse these as lengths and not as bits.
    if not can_be_words(lengths):
        raise Broken("there are no words of these lengths")
    return decoded(bits, head[1], lengths, many)


def read_turned(bits):
    head = read_ending(bits, 0)
    found = read_row(bits, head[1])
    row = text_by_fronts(numbers_by_runs(paired(found[0])))
    return (turned_back(row, head[0] - 1), found[1])


def telling_by_pair(pair):
    return ("sign", pair[1]) if pair[0] == 0 else ("copy", pair[0], pair[1])


def read_copies(bits):
    found = read_row(bits, 0)
    telling = [telling_by_pair(pair) for pair in paired(found[0])]
    return (text_by_copies(telling), found[1])


def read_grammar(bits):
    found = read_row(bits, 0)
    numbers = found[0]
    if len(numbers) == 0 or len(numbers) < 1 + 2 * numbers[0]:
        raise Broken("there are not as many rules as are told")
    behind = 1 + 2 * numbers[0]
    return (grammar_text(paired(numbers[1:behind]), numbers[behind:]), found[1])


def read_by(way, bits, many):
    if way == 0:
        return read_plainly(bits)
    if way == 1:
        return read_words(bits, many)
    if way == 2:
        return read_turned(bits)
    if way == 3:
        return read_copies(bits)
    if way == 4:
        return read_grammar(bits)
    return read_share(bits, 0)


def unpacked_by(way, bits, many):
    refuse_no_way(way)
    # A block's bits may be any list.
    if not are_bits(bits):
        raise Broken("these are no bits")
    found = read_by(way, bits, many)
    if found[1] != len(bits):
        raise Broken("the bits do not end behind the text")
    if len(found[0]) != many:
        raise Broken("the text has another number of signs")
    return found[0]


def best_way(text):
    packings = [(way, packed_by(way, text)) for way in range(WAYS)]
    return min(packings, key=lambda packing: (len(packing[1]), packing[0]))
