"""Rows of kinds, and groupings that put them together two at a time."""

from kindshifts.errors import InvalidBlock, InvalidCount, InvalidGrouping, InvalidRow
from kindshifts.forms import (blocks_within, deed_made, deeds_at, holder_of, is_count, is_grouping_of, is_span,
                              shifted, split_of)
from kindshifts.kinds import fold, is_row_of, need_kinds


def need_row(kinds, row):
    if not is_row_of(kinds, row):
        raise InvalidRow(row)


def need_size(size):
    if not is_count(size) or size < 1:
        raise InvalidCount(size)


def need_grouping(size, grouping):
    if not is_grouping_of(size, grouping):
        raise InvalidGrouping(grouping)


def need_any_grouping(grouping):
    if not isinstance(grouping, list):
        raise InvalidGrouping(grouping)
    need_grouping(len(grouping) + 1, grouping)


def need_block(grouping, block):
    # (False, 2) is (0, 2) for Python, so the form is asked first.
    if not is_span(block) or block not in grouping:
        raise InvalidBlock(block)


def is_row(kinds, value):
    need_kinds(kinds)
    return is_row_of(kinds, value)


def is_grouping(size, value):
    need_size(size)
    return is_grouping_of(size, value)


def kind_of(kinds, row, some):
    need_kinds(kinds)
    need_row(kinds, row)
    if not is_span(some) or some[1] > len(row):
        raise InvalidBlock(some)
    return fold(kinds.table(), row[some[0]:some[1]])


def kinds_of_spans(kinds, row):
    """The kinds of all things and blocks of a row, by their spans."""
    table, made = kinds.table(), {}
    for first, thing in enumerate(row):
        there = thing
        made[(first, first + 1)] = there
        for end in range(first + 2, len(row) + 1):
            there = table[(there, row[end - 1])]
            made[(first, end)] = there
    return made


def parts_of_span(grouping, span):
    middle = split_of(grouping, span)
    return ((span[0], middle), (middle, span[1]))


def parts_of(grouping, block):
    need_any_grouping(grouping)
    need_block(grouping, block)
    return parts_of_span(grouping, block)


def block_around(grouping, block):
    need_any_grouping(grouping)
    need_block(grouping, block)
    return holder_of(grouping, block)


def kinds_of_blocks(kinds, row, grouping):
    need_kinds(kinds)
    need_row(kinds, row)
    need_grouping(len(row), grouping)
    table = kinds.table()
    return [fold(table, row[first:end]) for (first, end) in grouping]


def tree_of(kinds, row, grouping):
    need_kinds(kinds)
    need_row(kinds, row)
    need_grouping(len(row), grouping)
    return tree_of_span(row, grouping, (0, len(row)))


def tree_of_span(row, grouping, span):
    if span[1] - span[0] == 1:
        return row[span[0]]
    left, right = parts_of_span(grouping, span)
    return (tree_of_span(row, grouping, left), tree_of_span(row, grouping, right))


def untied(kinds, tree):
    need_kinds(kinds)
    names = kinds.kinds()
    row, grouping = [], []
    # A step looks at a tree, or closes the block that begins at a place.
    steps = [("look", tree)]
    while steps:
        word, what = steps.pop()
        if word == "close":
            grouping.append((what, len(row)))
        elif what in names:
            row.append(what)
        elif isinstance(what, tuple) and len(what) == 2:
            steps.extend([("close", len(row)), ("look", what[1]), ("look", what[0])])
        else:
            raise InvalidGrouping(tree)
    return (row, sorted(grouping))


def groupings(size):
    need_size(size)
    made = [[], [[]]]
    for many in range(2, size + 1):
        found = [left + [(0, many)] + shifted(right, split)
                 for split in range(1, many) for left in made[split] for right in made[many - split]]
        made.append([sorted(grouping) for grouping in found])
    return sorted(made[size])


def ways(size):
    """How many groupings so many things have."""
    many = 1
    for step in range(1, size):
        many = many * 2 * (2 * step - 1) // (step + 1)
    return many


def many_groupings(size):
    need_size(size)
    return ways(size)


# The ascending list of groupings stands by the ends of the blocks that begin
# with the first thing. The things between two of these ends, and those between
# the first thing and the first end, are the right parts of these blocks: within
# the same ends the list stands by the groupings of these, the first one first.
# If such an end is told, the things behind it can be cut by further ends, and
# these cuts grouped, in as many ways as there are groupings of one thing more.


def grouping_at(size, number):
    need_size(size)
    if not is_count(number) or number >= ways(size):
        raise InvalidCount(number)
    return sorted(blocks_at(0, size, number))


def blocks_at(first, end, number):
    """The blocks of the grouping of some things that is at a position."""
    ends, weight = [first + 1], 1
    while ends[-1] < end:
        last = ends[-1]
        behind = last + 1
        passed = weight * ways(end - last)
        while number >= passed:
            number -= passed
            behind += 1
            passed = weight * ways(behind - last) * ways(end - behind + 1)
        weight *= ways(behind - last)
        ends.append(behind)
    blocks = [(first, behind) for behind in ends[1:]]
    for last, behind in reversed(list(zip(ends, ends[1:]))):
        blocks.extend(blocks_at(last, behind, number % ways(behind - last)))
        number //= ways(behind - last)
    return blocks


def grouping_place(grouping):
    need_any_grouping(grouping)
    return place_within(grouping, 0, len(grouping) + 1)


def place_within(grouping, first, end):
    """The position of the grouping of all things, or of those of a right part.

    No block that begins with the first of these things reaches beyond them.
    """
    ends = [first + 1] + [behind for (start, behind) in grouping if start == first]
    ahead, weight, inner = 0, 1, 0
    for last, behind in zip(ends, ends[1:]):
        for lesser in range(last + 1, behind):
            ahead += weight * ways(lesser - last) * ways(end - lesser + 1)
        weight *= ways(behind - last)
        inner = inner * ways(behind - last) + place_within(grouping, last, behind)
    return ahead + inner


def left_tower(size):
    need_size(size)
    return [(0, end) for end in range(2, size + 1)]


def right_tower(size):
    need_size(size)
    return [(first, size) for first in range(size - 1)]


def left_sum(grouping):
    need_any_grouping(grouping)
    return sum([split_of(grouping, block) - block[0] for block in grouping])


def mirrored(grouping):
    need_any_grouping(grouping)
    size = len(grouping) + 1
    return sorted([(size - end, size - first) for (first, end) in grouping])


def within(grouping, block):
    need_any_grouping(grouping)
    need_block(grouping, block)
    return shifted(blocks_within(grouping, block), -block[0])


def side_by_side(one, other):
    need_any_grouping(one)
    need_any_grouping(other)
    many = len(one) + 1
    return sorted(one + [(0, many + len(other) + 1)] + shifted(other, many))


def put_within(grouping, block, inner):
    need_any_grouping(grouping)
    need_block(grouping, block)
    need_grouping(block[1] - block[0], inner)
    gone = blocks_within(grouping, block)
    return sorted([some for some in grouping if some not in gone] + shifted(inner, block[0]))


def shared_blocks(one, other):
    need_any_grouping(one)
    need_grouping(len(one) + 1, other)
    return [block for block in one if block in other]


def flips(grouping):
    need_any_grouping(grouping)
    return sorted([deed_made(grouping, deed) for deed in deeds_at(grouping)])
