"""The last grouping of each class of EVERY row, along the arrows of a settled comb."""

from kindshifts.combing import combed, need_combed_grouping, need_combed_row, need_two_combed, spans_of
from kindshifts.errors import InvalidCount, InvalidGrouping
from kindshifts.forms import blocks_within, is_count
from kindshifts.groupings import kind_of, need_any_grouping, need_block, need_grouping, side_by_side, within
from kindshifts.kinds import need_kind
from kindshifts.rules import chain_back
from kindshifts.settled import need_settled


def last_from(comb, row, grouping):
    return combed(comb.arrows(), spans_of(comb, row), grouping)[1]


def are_alike(comb, row, one, other):
    """Whether the last groupings of two groupings are the same."""
    return last_from(comb, row, one) == last_from(comb, row, other)


def last_of(comb, row, grouping):
    need_combed_grouping(comb, row, grouping)
    need_settled(comb)
    return last_from(comb, row, grouping)


def joined_by_lasts(comb, row, one, other):
    need_two_combed(comb, row, one, other)
    need_settled(comb)
    return are_alike(comb, row, one, other)


def parting_block(comb, row, one, other):
    need_two_combed(comb, row, one, other)
    need_settled(comb)
    ours, theirs = last_from(comb, row, one), last_from(comb, row, other)
    parting = [block for block in ours if block not in theirs] + [block for block in theirs if block not in ours]
    if not parting:
        return None
    longest = max([end - first for first, end in parting])
    return min([(first, end) for first, end in parting if end - first == longest])


def chain_by_lasts(comb, row, one, other):
    need_two_combed(comb, row, one, other)
    need_settled(comb)
    arrows, spans = comb.arrows(), spans_of(comb, row)
    there, last = combed(arrows, spans, one)
    back, other_last = combed(arrows, spans, other)
    return there + chain_back(back) if last == other_last else None


def put_together(comb, row, one, other):
    need_combed_row(comb, row)
    need_any_grouping(one)
    rest = len(row) - len(one) - 1
    if rest < 1:
        raise InvalidGrouping(one)
    need_grouping(rest, other)
    need_settled(comb)
    return last_from(comb, row, side_by_side(one, other))


def exchanged(comb, row, place, kind):
    """The row with another kind at a place."""
    need_combed_row(comb, row)
    if not is_count(place) or place >= len(row):
        raise InvalidCount(place)
    need_kind(comb.rule().kinds(), kind)
    return row[:place] + [kind] + row[place + 1:]


def exchanged_last(comb, row, place, kind, grouping):
    changed = exchanged(comb, row, place, kind)
    return last_of(comb, changed, grouping)


def still_joined(comb, row, place, kind, one, other):
    changed = exchanged(comb, row, place, kind)
    return joined_by_lasts(comb, changed, one, other)


def need_shared_block(comb, row, block, one, other):
    need_two_combed(comb, row, one, other)
    need_block(one, block)
    need_block(other, block)
    need_settled(comb)


def are_alike_within(comb, row, block, one, other):
    first, end = block
    return are_alike(comb, row[first:end], within(one, block), within(other, block))


def around(grouping, block):
    """The grouping of the row in which a block is one thing."""
    first, end = block
    inner, less = blocks_within(grouping, block), end - first - 1
    kept = [some for some in grouping if some not in inner]
    return [(start - less if start >= end else start, last - less if last >= end else last) for start, last in kept]


def are_alike_around(comb, row, block, one, other):
    first, end = block
    shorter = row[:first] + [kind_of(comb.rule().kinds(), row, block)] + row[end:]
    return are_alike(comb, shorter, around(one, block), around(other, block))


def joined_within(comb, row, block, one, other):
    need_shared_block(comb, row, block, one, other)
    return are_alike_within(comb, row, block, one, other)


def joined_around(comb, row, block, one, other):
    need_shared_block(comb, row, block, one, other)
    return are_alike_around(comb, row, block, one, other)


def joined_keeping(comb, row, block, one, other):
    need_shared_block(comb, row, block, one, other)
    # No deed but one that takes the block out has a share in both.
    return are_alike_within(comb, row, block, one, other) and are_alike_around(comb, row, block, one, other)
