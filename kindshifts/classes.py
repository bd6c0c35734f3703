"""The classes of a row by a settled comb: their groupings, counted and in the order of splits."""

from kindshifts.combing import deeds_along, need_combed_grouping, need_combed_row, spans_of
from kindshifts.errors import InvalidCount
from kindshifts.forms import is_count, is_grouping_of, split_of, splits_at
from kindshifts.joining import all_classes, class_of
from kindshifts.numbers import need_block_of
from kindshifts.settled import need_settled


def class_by(comb, row, grouping):
    """The ascending list of a class, behind all errors of a call."""
    need_combed_grouping(comb, row, grouping)
    need_settled(comb)
    return class_of(comb.rule(), row, grouping)


def in_order_of_splits(found):
    return [grouping for _, grouping in sorted([(splits_told(grouping), grouping) for grouping in found])]


def splits_told(grouping):
    """What stands in the order of splits as groupings do.

    Each block stands ahead of those in its parts, and those in its first part
    ahead of those in its second one, so the first unlike split decides.
    """
    return sorted([(first, -end, split) for (first, end), split in zip(grouping, splits_at(grouping))])


def splits_of(comb, row, grouping):
    return list(size_by_splits(comb, row, grouping))


def class_size(comb, row, grouping):
    return len(class_by(comb, row, grouping))


def tallied(things):
    """The dictionary from things, ascending, to how often they come."""
    many = {}
    for thing in sorted(things):
        many[thing] = many.get(thing, 0) + 1
    return many


def size_by_splits(comb, row, grouping):
    found = class_by(comb, row, grouping)
    return tallied([split_of(some, (0, len(row))) for some in found if some])


def class_at(comb, row, grouping, number):
    need_combed_grouping(comb, row, grouping)
    if not is_count(number):
        raise InvalidCount(number)
    found = class_by(comb, row, grouping)
    if number >= len(found):
        raise InvalidCount(number)
    return in_order_of_splits(found)[number]


def class_place(comb, row, grouping):
    return in_order_of_splits(class_by(comb, row, grouping)).index(grouping)


def block_numbers(comb, row, grouping):
    return tallied([block for some in class_by(comb, row, grouping) for block in some])


def common_blocks(comb, row, grouping):
    found = class_by(comb, row, grouping)
    return [block for block in found[0] if all([block in some for some in found])]


def parted_class(comb, row, grouping, block):
    """The groupings of a class that have a block, and those that have it not."""
    need_combed_grouping(comb, row, grouping)
    need_block_of(row, block)
    found = class_by(comb, row, grouping)
    return [some for some in found if block in some], [some for some in found if block not in some]


def grouping_with(comb, row, grouping, block):
    found = parted_class(comb, row, grouping, block)[0]
    return found[0] if found else None


def is_grouping_with(comb, row, grouping, block, value):
    found = parted_class(comb, row, grouping, block)[0]
    return is_grouping_of(len(row), value) and value in found


def grouping_without(comb, row, grouping, block):
    found = parted_class(comb, row, grouping, block)[1]
    return found[0] if found else None


def is_grouping_without(comb, row, grouping, block, value):
    found = parted_class(comb, row, grouping, block)[1]
    return is_grouping_of(len(row), value) and value in found


def classes_by(comb, row):
    need_combed_row(comb, row)
    need_settled(comb)
    return all_classes(comb.rule(), row)


def classes_by_size(comb, row):
    return tallied([len(found) for found in classes_by(comb, row)])


def greatest_lasts(comb, row):
    """The last groupings of the classes of the greatest size."""
    classes = classes_by(comb, row)
    arrows, spans = comb.arrows(), spans_of(comb, row)
    most = max([len(found) for found in classes])
    return [some for found in classes if len(found) == most for some in found if not deeds_along(arrows, spans, some)]


def greatest_last(comb, row):
    return greatest_lasts(comb, row)[0]


def is_greatest_last(comb, row, value):
    found = greatest_lasts(comb, row)
    return is_grouping_of(len(row), value) and value in found
