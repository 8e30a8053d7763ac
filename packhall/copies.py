"""Copies: a text told by its signs and by copies of what stood earlier in it."""

from packhall.errors import Broken
from packhall.signs import MOST_SIGNS, is_sign, is_whole


def is_sign_told(thing):
    return len(thing) == 2 and thing[0] == "sign" and is_sign(thing[1])


def is_copy_told(thing):
    if len(thing) != 3 or thing[0] != "copy":
        return False
    return all([is_whole(number) and number >= 1 for number in thing[1:]])


def is_told(thing):
    return isinstance(thing, tuple) and (is_sign_told(thing) or is_copy_told(thing))


def times_of(thing):
    return thing[2] if thing[0] == "copy" else 1


def copy_on(text, back, times):
    if back > len(text):
        raise Broken("a copy lies farther back than there are signs")
    # Sign by sign, as a copy may reach into what it puts on itself.
    for k in range(times):
        text.append(text[len(text) - back])


def signs_by(telling, most):
    text = []
    for thing in telling:
        if not is_told(thing):
            raise Broken("a telling has signs and copies alone")
        # Asked ahead of putting them on: times may be too great for any list.
        if len(text) + times_of(thing) > most:
            raise Broken("there are too many signs")
        if thing[0] == "sign":
            text.append(thing[1])
        else:
            copy_on(text, thing[1], thing[2])
    return text


def text_by_copies(telling):
    return signs_by(telling, MOST_SIGNS)


def times_alike(text, begin, at):
    times = 0
    while at + times < len(text) and text[begin + times] == text[at + times]:
        times = times + 1
    return times


def longest_copy(text, at):
    back = 0
    times = 0
    for begin in range(at):
        found = times_alike(text, begin, at)
        # Of alike ones the nearest is taken, as small numbers are written shorter.
        if found >= times:
            back = at - begin
            times = found
    return (back, times)


def copies_of(text):
    telling = []
    at = 0
    # What is left of a copy without its first signs is a copy too, so taking the longest each time is never worse.
    while at < len(text):
        found = longest_copy(text, at)
        if found[1] > 0:
            telling.append(("copy", found[0], found[1]))
        else:
            telling.append(("sign", text[at]))
        at = at + times_of(telling[-1])
    return telling


def begins_ahead(text, at, many):
    sought = text[at:at + many]
    return any([text[begin:begin + many] == sought for begin in range(at)])


def is_telling_of(text, telling):
    try:
        found = signs_by(telling, len(text))
    except Broken:
        return False
    return found == text


def is_longest(text, telling):
    if not is_telling_of(text, telling):
        return False
    at = 0
    for thing in telling[:-1]:
        # A sign is asked for by itself, a copy with the sign behind it.
        many = thing[2] + 1 if thing[0] == "copy" else 1
        if begins_ahead(text, at, many):
            return False
        at = at + times_of(thing)
    return True
