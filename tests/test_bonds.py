"""Section 17: bonds ([93] to [97]), with [2] for them."""

import random
import unittest
from functools import lru_cache
from itertools import combinations

from kindshifts.bonds import (always_bonds, are_bonds, bonds_at, bonds_of, bonds_place, ever_bonds, grouped_by,
                              many_bonds, pieces_of)
from kindshifts.errors import InvalidBlock, InvalidBonds, InvalidCount, InvalidGrouping, InvalidRow
from kindshifts.groupings import grouping_at, is_grouping
from kindshifts.noughts import nought_classes, nought_joined
from tests.support import (check_judge, check_wrong, crossing, number_rows, raised, shown, try_blocks, try_groupings,
                           try_nought_let, try_parts, try_poured, wrong_for)
from tests.test_groupings import LEFT, OF_FOUR, PAIRS
from tests.test_noughts import WRONG_ROWS

ROW = [1, -1, 1, -1]
NEST = [(0, 4), (1, 3), (1, 4)]
WRONG_BONDS = wrong_for() + [
    [], [(0, 2)], [(2, 4)], [(0, 4)], [(2, 4), (0, 2)], [(0, 2), (0, 2), (2, 4)], [(0, 2), (1, 3)], ((0, 2), (2, 4)),
    [[0, 2], [2, 4]], [(0, 2), (0, 4), (2, 4)], [(0, 1), (0, 2), (2, 4)], [(False, 2), (2, 4)], [(0, 2), (2, 5)],
    [(0, 2), (2, 4), None], {(0, 2): 1, (2, 4): 1}, [(0, 2, 4)], [("0", "2"), (2, 4)], [(1, 3)], [(0, 3), (0, 4)]]


def try_stripped(row, grouping, span):
    """What a thing or a block is stripped to, by [93]."""
    if span[1] - span[0] == 1:
        return span
    left, right = try_parts(grouping, span)
    noughts = [sum(row[first:end]) == 0 for first, end in (left, right)]
    assert noughts != [True, True]
    if any(noughts):
        return try_stripped(row, grouping, right if noughts[0] else left)
    return (try_stripped(row, grouping, left)[0], try_stripped(row, grouping, right)[1])


def try_bonds(row, grouping):
    found = []
    for block in grouping:
        if all(sum(row[first:end]) != 0 for first, end in try_parts(grouping, block)):
            found.append(try_stripped(row, grouping, block))
    return sorted(found)


def try_pieces(value, stretch, own):
    """The greatest ones of a list within, other than itself where that is asked, and the things in none of these."""
    inner = [some for some in value if stretch[0] <= some[0] and some[1] <= stretch[1]
             and not (own and some == stretch)]
    greatest = [some for some in inner
                if not any(other != some and other[0] <= some[0] and some[1] <= other[1] for other in inner)]
    things = [(place, place + 1) for place in range(*stretch)
              if not any(first <= place < end for first, end in greatest)]
    return sorted(greatest + things)


def try_are_bonds(row, value):
    """By the words of [94]."""
    if any(crossing(one, other) for one, other in combinations(value, 2)):
        return False
    for stretch in value:
        noughts = [sum(row[first:end]) == 0 for first, end in try_pieces(value, stretch, True)]
        if len(noughts) < 2 or [place for place, told in enumerate(noughts) if not told] != [0, len(noughts) - 1]:
            return False
    left = [piece for piece in try_pieces(value, (0, len(row)), False) if sum(row[piece[0]:piece[1]]) != 0]
    return len(left) == (0 if sum(row) == 0 else 1)


@lru_cache(maxsize=None)
def asked():
    """Rows of one to five things in all ways of being alike in noughts, and some of six."""
    return [row for size in (1, 2, 3, 4, 5) for row in number_rows(size)] + number_rows(6)[::23]


def try_lists(row):
    """The ascending list of the lists of bonds of all groupings."""
    found = []
    for grouping in try_groupings(len(row)):
        bonds = try_bonds(row, grouping)
        if bonds not in found:
            found.append(bonds)
    return sorted(found)


class Bonds(unittest.TestCase):
    def test_bonds_against_what_is_joined(self):
        for row in asked():
            classes, told = try_poured(try_nought_let(row, ["a", "b", "c"])), []
            for found in classes:
                bonds = [bonds_of(row, grouping) for grouping in found]
                self.assertEqual(bonds, [try_bonds(row, grouping) for grouping in found])
                self.assertEqual(bonds, [bonds[0]] * len(bonds))
                told.append(bonds[0])
            self.assertEqual(sorted(told), try_lists(row))
            self.assertEqual(many_bonds(row), len(classes))

    def test_edges(self):
        self.assertEqual([bonds_of(row, []) for row in ([0], [7])], [[], []])
        self.assertEqual([bonds_of(row, [(0, 2)]) for row in ([0, 0], [0, 1], [1, 0], [1, 1], [1, -1])],
                         [[], [], [], [(0, 2)], [(0, 2)]])
        self.assertEqual(bonds_of(grouping=[(0, 3), (1, 3)], row=[2, 0, 3]), [(0, 3)])
        self.assertEqual([many_bonds(row=[0] * size) for size in (1, 4, 12)], [1, 1, 1])
        self.assertEqual([many_bonds([1] * size) for size in (1, 2, 5, 12)], [1, 1, 14, 58786])

    def test_all_lists_of_stretches(self):
        for row in [row for row in asked() if len(row) < 5]:
            lists = try_lists(row)
            for many in range(5):
                for value in combinations(sorted(try_blocks(len(row))), many):
                    self.assertIs(are_bonds(row, list(value)), list(value) in lists)
                    self.assertIs(try_are_bonds(row, list(value)), list(value) in lists)

    def test_longer_lists_of_stretches(self):
        chance = random.Random(101)
        for row in number_rows(6)[::17]:
            lists = try_lists(row)
            for _ in range(40):
                value = sorted(set(chance.choices(try_blocks(6), k=4)) | set(chance.choice(lists)[1:]))
                self.assertIs(are_bonds(row, value), value in lists)

    def test_any_object(self):
        check_judge(self, lambda value: are_bonds(ROW, value))
        check_judge(self, lambda value: are_bonds([0, 0, 0], value), [[]])
        check_judge(self, lambda value: are_bonds([5], value), [[]])
        for value in WRONG_BONDS:
            self.assertIs(are_bonds(ROW, value), False)
        self.assertIs(are_bonds(value=[(0, 2), (2, 4)], row=ROW), True)


class Pieces(unittest.TestCase):
    def test_pieces(self):
        for row in asked():
            for bonds in try_lists(row):
                for stretch in bonds:
                    found = pieces_of(row, bonds, stretch)
                    self.assertEqual(found, try_pieces(bonds, stretch, True))
                    noughts = [sum(row[first:end]) == 0 for first, end in found]
                    self.assertEqual(noughts, [False] + [True] * (len(found) - 2) + [False])
        self.assertEqual(pieces_of(stretch=(0, 4), bonds=[(0, 4), (1, 3)], row=ROW), [(0, 1), (1, 3), (3, 4)])

    def test_grouped_by(self):
        for row in asked():
            for bonds in try_lists(row):
                grouping = grouped_by(row, bonds)
                self.assertIs(is_grouping(len(row), grouping), True)
                self.assertEqual(bonds_of(row, grouping), bonds)
        self.assertEqual(grouped_by(bonds=[], row=[0]), [])
        self.assertEqual(bonds_of([0] * 12, grouped_by([0] * 12, [])), [])


class Positions(unittest.TestCase):
    def test_positions(self):
        for row in asked():
            lists = try_lists(row)
            self.assertEqual(many_bonds(row=row), len(lists))
            self.assertEqual([bonds_at(row, number) for number in range(len(lists))], lists)
            self.assertEqual([bonds_place(row, bonds) for bonds in lists], list(range(len(lists))))
            for number in (len(lists), len(lists) + 1, -1):
                error = raised(lambda: bonds_at(row, number))
                self.assertIs(type(error), InvalidCount)
                self.assertIs(error.value, number)

    def test_what_all_and_some_have(self):
        for row in asked():
            lists = try_lists(row)
            self.assertEqual(always_bonds(row=row), [some for some in try_blocks(len(row))
                                                     if all(some in bonds for bonds in lists)])
            self.assertEqual(ever_bonds(row=row), [some for some in try_blocks(len(row))
                                                   if any(some in bonds for bonds in lists)])

    def test_rows_of_twelve_things(self):
        chance = random.Random(103)
        for row in ([1, -1] * 6, [1] * 12, [0] * 12, [99, -99, 0, 5, 7, -12, 3, 0, 0, -3, 1, 2],
                    [chance.choice((-1, 0, 1)) for _ in range(12)], [chance.randrange(-99, 100) for _ in range(12)]):
            many = many_bonds(row)
            self.assertEqual(many, nought_classes(row, ["a", "b", "c"]))
            ahead = None
            for number in sorted({0, 1, many // 3, many // 2, many - 2, many - 1} & set(range(many))):
                bonds = bonds_at(number=number, row=row)
                self.assertIs(are_bonds(row, bonds), True)
                self.assertEqual(bonds_place(bonds=bonds, row=row), number)
                self.assertEqual(bonds_of(row, grouped_by(row, bonds)), bonds)
                self.assertTrue(ahead is None or ahead < bonds)
                ahead = bonds
                self.assertTrue(set(always_bonds(row)) <= set(bonds) <= set(ever_bonds(row)))
            self.assertIs(type(raised(lambda: bonds_at(row, many))), InvalidCount)
            one, other = [grouping_at(12, chance.randrange(58786)) for _ in range(2)]
            self.assertIs(bonds_of(row, one) == bonds_of(row, other), nought_joined(row, ["a", "b", "c"], one, other))

    def test_rows_of_other_numbers_alike_in_noughts(self):
        for one, other in (([1, -1, 2, 0], [30, -30, 1, 0]), ([10 ** 20, 5, -5], [1, 2, -2])):
            self.assertEqual(shown([many_bonds(one), ever_bonds(one), always_bonds(one)]),
                             shown([many_bonds(other), ever_bonds(other), always_bonds(other)]))


class Wrong(unittest.TestCase):
    def test_wrong_arguments(self):
        row, wrong = [("row", list(ROW))], [("row", InvalidRow, WRONG_ROWS)]
        for function in (many_bonds, always_bonds, ever_bonds):
            check_wrong(self, function, lambda: list(row), wrong)
        check_wrong(self, are_bonds, lambda: row + [("value", None)], wrong)
        check_wrong(self, bonds_of, lambda: row + [("grouping", list(LEFT))],
                    wrong + [("grouping", InvalidGrouping, OF_FOUR)])
        bonds, wrong_bonds = row + [("bonds", [(0, 4), (1, 3)])], wrong + [("bonds", InvalidBonds, WRONG_BONDS)]
        for function in (grouped_by, bonds_place):
            check_wrong(self, function, lambda: list(bonds), wrong_bonds)
        stretches = wrong_for() + [(0, 1), (0, 3), (2, 4), [0, 4], (False, 4), (0, 4, 4), ("0", "4"), (1, 4), [(0, 4)]]
        check_wrong(self, pieces_of, lambda: bonds + [("stretch", (0, 4))],
                    wrong_bonds + [("stretch", InvalidBlock, stretches)])
        numbers = [value for value in wrong_for([0, 1]) if value != 1] + [2, 3, -5, "1", [1], (1,)]
        check_wrong(self, bonds_at, lambda: row + [("number", 1)], wrong + [("number", InvalidCount, numbers)])

    def test_a_row_that_is_a_bond_as_a_whole(self):
        # As a bond it has pieces of its own, as the row it is the one piece.
        self.assertEqual(pieces_of([1, 2], [(0, 2)], (0, 2)), [(0, 1), (1, 2)])
        self.assertIs(type(raised(lambda: pieces_of([1, 2, 0], [(0, 2)], (0, 3)))), InvalidBlock)
        self.assertIs(type(raised(lambda: pieces_of([0, 0], [], (0, 2)))), InvalidBlock)

    def test_what_was_passed_or_returned_may_change(self):
        row, bonds, grouping = list(ROW), [(0, 4), (1, 3)], list(NEST)
        before = shown([row, bonds, grouping])

        def told():
            return [bonds_of(row, grouping), pieces_of(row, bonds, (0, 4)), grouped_by(row, bonds), bonds_at(row, 0),
                    always_bonds(row), ever_bonds(row), bonds_of([0, 0], [(0, 2)]), grouped_by([4], [])]
        first = shown(told())
        for made in told():
            made.append(None)
        self.assertEqual(shown(told()), first)
        self.assertEqual(shown([row, bonds, grouping]), before)
        self.assertEqual(bonds_of(row, PAIRS), bonds_at(row, 0))


if __name__ == "__main__":
    unittest.main()
