"""Grammars: a text by rules of pairs, measured, read and counted by the rules as they lie."""

from packhall.errors import Broken
from packhall.signs import LAST_SIGN, MOST_SIGNS, is_whole, refuse_no_stretch

# The symbol of the rule 0: one behind the last sign.
FIRST_RULE = 256


def are_symbols(things, many):
    return all([is_whole(thing) and 0 <= thing < FIRST_RULE + many for thing in things])


def is_rule(thing, number):
    # Only the rules ahead of it may stand in a rule: as many as its own number.
    return isinstance(thing, tuple) and len(thing) == 2 and are_symbols(thing, number)


def is_grammar(rules, row):
    if not isinstance(rules, list) or not isinstance(row, list):
        return False
    if not all([is_rule(rule, number) for number, rule in enumerate(rules)]):
        return False
    return are_symbols(row, len(rules))


def refuse_no_grammar(rules, row):
    if not is_grammar(rules, row):
        raise Broken("these are no grammar")


def lengths_by(rules):
    lengths = [1] * FIRST_RULE
    for a, b in rules:
        lengths.append(lengths[a] + lengths[b])
    return lengths


def grammar_length(rules, row):
    refuse_no_grammar(rules, row)
    lengths = lengths_by(rules)
    return sum([lengths[symbol] for symbol in row])


def signs_between(rules, row, first, last):
    lengths = lengths_by(rules)
    text = []
    at = 0
    # The symbols that are still to be read, the next one as the last: rules may lie too deep for calls in calls.
    left = list(reversed(row))
    while at < last:
        symbol = left.pop()
        if at + lengths[symbol] <= first:
            at = at + lengths[symbol]
        elif symbol <= LAST_SIGN:
            text.append(symbol)
            at = at + 1
        else:
            rule = rules[symbol - FIRST_RULE]
            left.extend([rule[1], rule[0]])
    return text


def grammar_stretch(rules, row, first, last):
    refuse_no_stretch(first, last, grammar_length(rules, row))
    return signs_between(rules, row, first, last)


def grammar_text(rules, row):
    length = grammar_length(rules, row)
    if length > MOST_SIGNS:
        raise Broken("there are too many signs")
    return signs_between(rules, row, 0, length)


def times_in(text, word):
    many = len(word)
    return sum([1 for at in range(len(text) - many + 1) if text[at:at + many] == word])


def part_of_sign(sign, word):
    ends = [sign][:len(word) - 1]
    return (1 if word == [sign] else 0, ends, ends)


def part_of_both(one, two, word):
    # A part is how often the word stands in it, and its first and last signs, one less than the word has:
    # so what is found where two parts meet lies in both of them, and is counted in neither.
    most = len(word) - 1
    times = one[0] + two[0] + times_in(one[2] + two[1], word)
    head = one[1] + two[1]
    tail = one[2] + two[2]
    return (times, head[:most], tail[max(len(tail) - most, 0):])


def grammar_count(rules, row, word):
    length = grammar_length(rules, row)
    # No signs stand at each place, the one behind the last sign too.
    if len(word) == 0:
        return length + 1
    parts = [part_of_sign(sign, word) for sign in range(FIRST_RULE)]
    for a, b in rules:
        parts.append(part_of_both(parts[a], parts[b], word))
    whole = (0, [], [])
    for symbol in row:
        whole = part_of_both(whole, parts[symbol], word)
    return whole[0]


def pair_times(row):
    times = {}
    behind = {}
    for at in range(len(row) - 1):
        pair = (row[at], row[at + 1])
        # Of alike neighbours, three in a row, the second pair overlaps the first and does not count.
        if behind.get(pair, 0) <= at:
            times[pair] = times.get(pair, 0) + 1
            behind[pair] = at + 2
    return times


def most_frequent(times):
    found = None
    for pair in times:
        if times[pair] > 1 and (found is None or times[pair] > times[found]):
            found = pair
    return found


def with_symbol(row, pair, symbol):
    made = []
    at = 0
    while at < len(row):
        if row[at:at + 2] == [pair[0], pair[1]]:
            made.append(symbol)
            at = at + 2
        else:
            made.append(row[at])
            at = at + 1
    return made


def grammar_of(text):
    rules = []
    row = list(text)
    pair = most_frequent(pair_times(row))
    # A rule's two symbols are made up for by two places at least that it saves in the row,
    # and its pair never comes back there, as neighbours only ever change to newer symbols.
    while pair is not None:
        row = with_symbol(row, pair, FIRST_RULE + len(rules))
        rules.append(pair)
        pair = most_frequent(pair_times(row))
    return (rules, row)
