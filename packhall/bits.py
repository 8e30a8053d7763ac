"""Whole numbers as bits: by so many low bits, by ending bits, and rows of them."""

from packhall.errors import Broken, NoNumber


def low_bits(n, k):
    if n < 0 or n.bit_length() > k:
        raise NoNumber("the number cannot be written by so many bits")
    bits = []
    left = n
    while len(bits) < k:
        bits.append(left % 2)
        left = left // 2
    bits.reverse()
    return bits


def number_of(bits):
    number = 0
    for bit in bits:
        number = 2 * number + bit
    return number


def ending_bits(n):
    if n < 1:
        raise NoNumber("only numbers from 1 on have ending bits")
    many = n.bit_length()
    return [0] * (many - 1) + low_bits(n, many)


def first_one(bits, at):
    # A place below 0 would otherwise be counted from the end.
    if at < 0:
        raise Broken("there is no such place")
    for place in range(at, len(bits)):
        if bits[place] == 1:
            return place
    raise Broken("no number is written there")


def read_ending(bits, at):
    one = first_one(bits, at)
    # The number has one bit more than there are 0s ahead of its first 1.
    behind = one + (one - at) + 1
    if behind > len(bits):
        raise Broken("the bits end within a number")
    return (number_of(bits[one:behind]), behind)


def row_bits(numbers):
    bits = ending_bits(len(numbers) + 1)
    for number in numbers:
        bits.extend(ending_bits(number + 1))
    return bits


def read_row(bits, at):
    head = read_ending(bits, at)
    many = head[0] - 1
    behind = head[1]
    numbers = []
    # Bits that tell of too many numbers come to their end here and are refused.
    while len(numbers) < many:
        found = read_ending(bits, behind)
        numbers.append(found[0] - 1)
        behind = found[1]
    return (numbers, behind)
