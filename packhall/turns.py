"""Turned texts: the endings of a text in order, and the signs ahead of them."""

from packhall.errors import Broken
from packhall.signs import are_signs


def endings_of(text):
    return sorted(range(len(text) + 1), key=lambda at: text[at:])


def turned_text(text):
    row = []
    hole = 0
    for rank, at in enumerate(endings_of(text)):
        if at == 0:
            hole = rank
        else:
            row.append(text[at - 1])
    return (row, hole)


def may_be_turned(row, hole):
    return are_signs(row) and 0 <= hole <= len(row)


def turned_back(row, hole):
    if not may_be_turned(row, hole):
        raise Broken("no text has such a row and hole")
    # What stands in the hole comes ahead of every sign, as the empty ending comes ahead of all others.
    column = row[:hole] + [-1] + row[hole:]
    # Endings with the same first sign are in the order of what is left without it,
    # so shorter[rank] is where the ending at a rank comes to stand when its first sign is taken off.
    shorter = sorted(range(len(column)), key=lambda rank: column[rank])
    text = []
    at = shorter[hole]
    while at != hole:
        text.append(column[at])
        at = shorter[at]
    # A walk that closes early has left signs out: these stand in no text together.
    if len(text) < len(row):
        raise Broken("no text has such a row and hole")
    return text
