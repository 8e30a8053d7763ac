"""Containers: packed texts in blocks, each by its best way, read by the blocks alone that are touched."""

from packhall.bits import read_row, row_bits
from packhall.errors import Broken, NoName, NoNumber, NoPlace
from packhall.signs import MOST_SIGNS, is_whole, paired, refuse_no_stretch, unpaired
from packhall.ways import best_way, unpacked_by

GREATEST_SIZE = 64


def is_size(thing):
    return is_whole(thing) and 1 <= thing <= GREATEST_SIZE


def is_total(thing):
    return is_whole(thing) and 0 <= thing <= MOST_SIGNS


def is_block(thing):
    if not isinstance(thing, tuple) or len(thing) != 2:
        return False
    return is_whole(thing[0]) and thing[0] >= 0 and isinstance(thing[1], list)


def are_blocks(things, many):
    return isinstance(things, list) and len(things) == many and all([is_block(thing) for thing in things])


def blocks_needed(size, total):
    return (total + size - 1) // size


def is_container(thing):
    if not isinstance(thing, tuple) or len(thing) != 3:
        return False
    if not is_size(thing[0]) or not is_total(thing[1]):
        return False
    return are_blocks(thing[2], blocks_needed(thing[0], thing[1]))


def refuse_no_container(thing):
    if not is_container(thing):
        raise Broken("this is no container")


def pack(text, size):
    if not is_size(size):
        raise NoNumber("no container has blocks of such a size")
    if len(text) > MOST_SIGNS:
        raise NoNumber("there are too many signs")
    blocks = [best_way(text[at:at + size]) for at in range(0, len(text), size)]
    return (size, len(text), blocks)


def block_text(container, number):
    size = container[0]
    many = min(size, container[1] - size * number)
    block = container[2][number]
    try:
        return unpacked_by(block[0], block[1], many)
    except NoName:
        # A block may bear any way: one that is none is a fault of the block.
        raise Broken("a block is packed by no way")


def signs_touched(container, first, last):
    # No sign is asked for, so no block is touched, though the place may lie within one.
    if first == last:
        return []
    size = container[0]
    begin = first // size
    text = []
    for number in range(begin, (last - 1) // size + 1):
        text.extend(block_text(container, number))
    return text[first - size * begin:last - size * begin]


def text_of(container):
    refuse_no_container(container)
    return signs_touched(container, 0, container[1])


def sign_at(container, at):
    refuse_no_container(container)
    if at < 0 or at >= container[1]:
        raise NoPlace("there is no such place")
    return signs_touched(container, at, at + 1)[0]


def stretch_of(container, first, last):
    refuse_no_container(container)
    refuse_no_stretch(first, last, container[1])
    return signs_touched(container, first, last)


def container_bits(container):
    refuse_no_container(container)
    heads = [(way, len(bits)) for way, bits in container[2]]
    told = row_bits([container[0], container[1]] + unpaired(heads))
    for way, bits in container[2]:
        told.extend(bits)
    return told


def blocks_by(bits, at, heads):
    blocks = []
    behind = at
    for way, many in heads:
        blocks.append((way, bits[behind:behind + many]))
        behind = behind + many
    if behind != len(bits):
        raise Broken("the bits do not end behind the blocks")
    return blocks


def read_container(bits):
    found = read_row(bits, 0)
    numbers = found[0]
    if len(numbers) < 2:
        raise Broken("there is no size or no total")
    container = (numbers[0], numbers[1], blocks_by(bits, found[1], paired(numbers[2:])))
    refuse_no_container(container)
    return container
