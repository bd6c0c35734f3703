"""How many classes EVERY row has: its last groupings, counted without being made."""

from kindshifts.combing import deeds_along, need_comb, need_combed_grouping, need_combed_row, spans_of
from kindshifts.ending import all_pairs
from kindshifts.errors import InvalidBlock, InvalidCount
from kindshifts.forms import is_block_of, is_count, split_of
from kindshifts.groupings import need_size
from kindshifts.kinds import fold, is_row_of, need_kind
from kindshifts.settled import need_settled

# A block of a last grouping is barred by nothing but the kinds of its parts and
# of what stands beside it within the block around it: a first part by an arrow
# "right", a second one by an arrow "left". So last groupings are counted by the
# pairs of their blocks of all things. `sides` tells what stands beside: the kind
# ahead and that behind, None where there is none.

ALONE = (None, None)


def stands(arrows, pair, sides):
    """Whether a block of a pair, or one thing (its kind alone is told then), may stand beside what is told."""
    ahead, behind = sides
    if len(pair) == 1:
        return True
    # Where nothing stands beside, no triple is there to have an arrow.
    return arrows.get(pair + (behind,)) != "right" and arrows.get((ahead,) + pair) != "left"


class Tally:
    """How many last groupings rows have.

    A row is a tuple of kinds here. A tuple of kinds may stand in it for one kind:
    the things of a block that is kept, whatever is around it.
    """

    def __init__(self, comb):
        self._arrows = comb.arrows()
        self._table = comb.rule().kinds().table()
        self._kinds = {}
        self._parts = {}

    def kind(self, row):
        if row not in self._kinds:
            if len(row) > 1:
                self._kinds[row] = self._table[(self.kind(row[:-1]), self.kind(row[-1:]))]
            else:
                self._kinds[row] = row[0] if isinstance(row[0], str) else self.kind(row[0])
        return self._kinds[row]

    def parts(self, row):
        """The list of the splits of a row with their pairs and how many last groupings each has."""
        if row not in self._parts:
            if len(row) > 1:
                self._parts[row] = [self.told_at(row, split) for split in range(1, len(row))]
            else:
                self._parts[row] = [(0, row, 1)] if isinstance(row[0], str) else self.parts(row[0])
        return self._parts[row]

    def told_at(self, row, split):
        pair = (self.kind(row[:split]), self.kind(row[split:]))
        many = self.many(row[:split], (None, pair[1])) * self.many(row[split:], (pair[0], None))
        return (split, pair, many)

    def standing(self, row, sides):
        return [told for told in self.parts(row) if stands(self._arrows, told[1], sides)]

    def many(self, row, sides):
        return sum([number for _, _, number in self.standing(row, sides)])

    def found(self, row, sides, number):
        """The split and the pair of the last grouping at a position, and the position among those of both."""
        for split, pair, many in self.standing(row, sides):
            if number < many:
                return split, pair, number
            number -= many
        return None


def number_of(comb, row):
    return Tally(comb).many(tuple(row), ALONE)


def class_number(comb, row):
    need_combed_row(comb, row)
    need_settled(comb)
    return number_of(comb, row)


def is_one_class(comb, row):
    return class_number(comb, row) == 1


def last_at(comb, row, number):
    need_combed_row(comb, row)
    if not is_count(number):
        raise InvalidCount(number)
    need_settled(comb)
    if number >= number_of(comb, row):
        raise InvalidCount(number)
    return sorted(blocks_at(Tally(comb), tuple(row), ALONE, number, 0))


def blocks_at(tally, row, sides, number, first):
    """The blocks of the last grouping of a row at a position, its things being counted from a first one on."""
    if len(row) == 1:
        return []
    split, pair, rest = tally.found(row, sides, number)
    by_first, by_second = (None, pair[1]), (pair[0], None)
    many = tally.many(row[split:], by_second)
    left = blocks_at(tally, row[:split], by_first, rest // many, first)
    return left + [(first, first + len(row))] + blocks_at(tally, row[split:], by_second, rest % many, first + split)


def last_place(comb, row, grouping):
    need_combed_grouping(comb, row, grouping)
    need_settled(comb)
    if deeds_along(comb.arrows(), spans_of(comb, row), grouping):
        return None
    return place_of(Tally(comb), tuple(row), ALONE, grouping, 0)


def place_of(tally, row, sides, grouping, first):
    """The position of the last grouping of a row that a grouping has from a first thing on."""
    if len(row) == 1:
        return 0
    split = split_of(grouping, (first, first + len(row))) - first
    ahead = sum([many for lesser, _, many in tally.standing(row, sides) if lesser < split])
    by_first, by_second = (None, tally.kind(row[split:])), (tally.kind(row[:split]), None)
    left = place_of(tally, row[:split], by_first, grouping, first)
    right = place_of(tally, row[split:], by_second, grouping, first + split)
    return ahead + left * tally.many(row[split:], by_second) + right


def numbers_by_pairs(comb, size, names):
    """For one thing, two things and so on how many last groupings all rows of some kinds have, by their pairs."""
    arrows, table, pairs = comb.arrows(), comb.rule().kinds().table(), all_pairs(comb.rule().kinds())
    told, firsts, seconds = [], [], []
    for many in range(1, size + 1):
        here = {(name,): 1 for name in names}
        if many > 1:
            here = {pair: sum([firsts[part][pair] * seconds[many - 2 - part][pair] for part in range(many - 1)])
                    for pair in pairs}
        told.append(here)
        firsts.append({(a, b): standing_as(arrows, table, here, a, (None, b)) for a, b in pairs})
        seconds.append({(a, b): standing_as(arrows, table, here, b, (a, None)) for a, b in pairs})
    return told


def standing_as(arrows, table, here, kind, sides):
    """How many of those told by their pairs are of a kind and may stand beside what is told."""
    return sum([here[pair] for pair in here if fold(table, pair) == kind and stands(arrows, pair, sides)])


def alike_numbers(comb, kind, size):
    need_comb(comb)
    need_kind(comb.rule().kinds(), kind)
    need_size(size)
    need_settled(comb)
    return [sum(here.values()) for here in numbers_by_pairs(comb, size, [kind])]


def need_sized(comb, size):
    need_comb(comb)
    need_size(size)
    need_settled(comb)


def numbers_over_rows(comb, size):
    need_sized(comb, size)
    kinds = comb.rule().kinds()
    here = numbers_by_pairs(comb, size, kinds.kinds())[-1]
    table = kinds.table()
    sums = {name: sum([here[pair] for pair in here if fold(table, pair) == name]) for name in kinds.kinds()}
    return {name: sums[name] for name in sums if sums[name] > 0}


def numbers_of_rows(comb, size):
    """The numbers of classes of all rows of so many things, as tuples, ascending."""
    rows, tally = [()], Tally(comb)
    for _ in range(size):
        rows = [row + (name,) for row in rows for name in comb.rule().kinds().kinds()]
    return {row: tally.many(row, ALONE) for row in rows}


def most_classes(comb, size):
    need_sized(comb, size)
    return max(numbers_of_rows(comb, size).values())


def most_row(comb, size):
    need_sized(comb, size)
    numbers = numbers_of_rows(comb, size)
    most = max(numbers.values())
    return [list(row) for row in numbers if numbers[row] == most][0]


def is_most_row(comb, size, value):
    most = most_classes(comb, size)
    if not is_row_of(comb.rule().kinds(), value) or len(value) != size:
        return False
    return number_of(comb, value) == most


def need_block_of(row, block):
    if not is_block_of(len(row), block):
        raise InvalidBlock(block)


def with_kept(row, block):
    """The row, as a tuple, in which a block is kept."""
    first, end = block
    things = tuple(row)
    return things[:first] + (things[first:end],) + things[end:]


def lasts_with(comb, row, block):
    need_combed_row(comb, row)
    need_block_of(row, block)
    need_settled(comb)
    return number_of(comb, with_kept(row, block))


def always_last(comb, row):
    need_combed_row(comb, row)
    need_settled(comb)
    tally, size = Tally(comb), len(row)
    most = tally.many(tuple(row), ALONE)
    blocks = [(first, end) for first in range(size) for end in range(first + 2, size + 1)]
    return [block for block in blocks if tally.many(with_kept(row, block), ALONE) == most]
