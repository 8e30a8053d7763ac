"""Seals: rows mixed to one number, a container's seal, papers that show blocks under it, and clashes."""

from packhall.containers import is_block, refuse_no_container
from packhall.errors import NoPlace
from packhall.signs import is_whole, refuse_no_stretch

FACTOR = 1000003
MODULUS = 2305843009213693951

# The first number of a mixed row: so a block, a pair of seals and a container never have one row.
OF_BLOCK = 0
OF_PAIR = 1
OF_CONTAINER = 2


def mix(row):
    mixed = len(row)
    for number in row:
        mixed = (mixed * FACTOR + number) % MODULUS
    return mixed


def block_row(block):
    return [OF_BLOCK, block[0]] + block[1]


def block_seal(block):
    return mix(block_row(block))


def pair_rows(level):
    return [[OF_PAIR, level[at], level[at + 1]] for at in range(0, len(level) - 1, 2)]


def next_level(level):
    # A last one left over goes up as it is.
    left_over = level[len(level) - len(level) % 2:]
    return [mix(row) for row in pair_rows(level)] + left_over


def top_of(seals):
    if len(seals) == 0:
        return 0
    level = seals
    while len(level) > 1:
        level = next_level(level)
    return level[0]


def container_row(numbers, top):
    return [OF_CONTAINER, numbers[0], numbers[1], numbers[2], top]


def seal_of(container):
    refuse_no_container(container)
    blocks = container[2]
    top = top_of([block_seal(block) for block in blocks])
    return mix(container_row((container[0], container[1], len(blocks)), top))


def places_lacking(begin, behind, many):
    # The known ones of a level, from begin to before behind, must begin and end with whole pairs to be joined.
    places = []
    if begin % 2 == 1:
        places.append(begin - 1)
    if behind % 2 == 1 and behind < many:
        places.append(behind)
    return places


def paper_of(container, first, last):
    refuse_no_container(container)
    refuse_no_stretch(first, last, len(container[2]))
    if first == last:
        raise NoPlace("there is no paper of no blocks")
    level = [block_seal(block) for block in container[2]]
    begin = first
    behind = last
    paper = []
    while len(level) > 1:
        paper.extend([level[place] for place in places_lacking(begin, behind, len(level))])
        level = next_level(level)
        begin = begin // 2
        behind = (behind + 1) // 2
    return paper


def may_be_sealed(block):
    return is_block(block) and all([is_whole(number) and number >= 0 for number in block[1]])


def are_seals(numbers):
    return all([is_whole(number) and 0 <= number < MODULUS for number in numbers])


def may_show(many, first, blocks, paper):
    if first < 0 or len(blocks) == 0 or first + len(blocks) > many:
        return False
    return all([may_be_sealed(block) for block in blocks]) and are_seals(paper)


def rows_to_top(many, first, blocks, paper):
    # Told are the rows in the order of their mixing, and the top; of a paper too short or too long None.
    rows = [block_row(block) for block in blocks]
    known = [mix(row) for row in rows]
    left = list(reversed(paper))
    begin = first
    behind = first + len(blocks)
    width = many
    while width > 1:
        for place in places_lacking(begin, behind, width):
            if len(left) == 0:
                return None
            told = [left.pop()]
            known = told + known if place < begin else known + told
        rows.extend(pair_rows(known))
        known = next_level(known)
        begin = begin // 2
        behind = (behind + 1) // 2
        width = (width + 1) // 2
    return (rows, known[0]) if len(left) == 0 else None


def rows_mixed(numbers, first, blocks, paper):
    if not may_show(numbers[2], first, blocks, paper):
        return None
    found = rows_to_top(numbers[2], first, blocks, paper)
    if found is None:
        return None
    return found[0] + [container_row(numbers, found[1])]


def paper_shows(seal, numbers, first, blocks, paper):
    rows = rows_mixed(numbers, first, blocks, paper)
    # The row mixed last is the container's own.
    return rows is not None and mix(rows[-1]) == seal


def clash_of(numbers, first, blocks, paper, others, other):
    if len(blocks) != len(others) or blocks == others:
        return None
    rows = rows_mixed(numbers, first, blocks, paper)
    other_rows = rows_mixed(numbers, first, others, other)
    if rows is None or other_rows is None or mix(rows[-1]) != mix(other_rows[-1]):
        return None
    # As many blocks are mixed in as many rows, each at the place of its like. Unlike rows lead to unlike ones above
    # them, but where their mixes are alike; as the mixes at the end are, there is such a place.
    clashes = [(one, two) for one, two in zip(rows, other_rows) if one != two and mix(one) == mix(two)]
    return clashes[0]
