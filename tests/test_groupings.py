"""Section 4: rows and groupings ([17] to [23]), with [2] for them."""

import unittest
from itertools import combinations

from kindshifts.errors import InvalidBlock, InvalidCount, InvalidGrouping, InvalidKinds, InvalidRow
from kindshifts.groupings import (block_around, flips, grouping_at, grouping_place, groupings, is_grouping, is_row,
                                  kind_of, kinds_of_blocks, left_sum, left_tower, many_groupings, mirrored, parts_of,
                                  put_within, right_tower, shared_blocks, side_by_side, tree_of, untied, within)
from kindshifts.kinds import first_kinds
from tests.support import (check_judge, check_wrong, even, pool, rows_of, shown, some_kinds, try_groupings,
                           try_kind, try_parts, wrong_for)
from tests.test_kinds import WRONG_KINDS, WRONG_ROWS

UP_TO_SIX = [(size, grouping) for size in range(1, 7) for grouping in try_groupings(size)]
LEFT, PAIRS, NEST = [(0, 2), (0, 3), (0, 4)], [(0, 2), (0, 4), (2, 4)], [(0, 4), (1, 3), (1, 4)]
BAD_GROUPINGS = [((0, 2), (0, 3), (0, 4)), [(0, 3), (0, 2), (0, 4)], [(0, 2), (0, 2), (0, 4)], [(0, 2), (0, 4), (1, 3)],
                 [[0, 2], [0, 3], [0, 4]], [(0, 1), (0, 2), (0, 3)], [(False, 2), (0, 3), (0, 4)], [(0, 2), (0, 3)] * 2,
                 [(0, 2), (0, 3), (0, 5)], [(-1, 2), (0, 3), (0, 4)], [(0, 2), (0, 3), (1, 4)], [(0, 2), (0, 3), None],
                 {(0, 2): (0, 3)}, [(0, 2, 3), (0, 3), (0, 4)], [(0, 2), "03", (0, 4)], [(0, 3), (2, 1), (0, 4)],
                 [(0, 4), (1, 2), (2, 4)], [(0, 3), (0, 4), (2, 3)], [(1, 3), (1, 4), (1, 5)],
                 [(0, 2), (2, 4), (0, 4)], [(0, 2), (0, even()), (0, 4)]]
OF_ANY_NUMBER = wrong_for([[]]) + BAD_GROUPINGS
OF_FOUR = wrong_for() + BAD_GROUPINGS + [[(0, 2), (0, 3)], [(0, 2), (0, 3), (0, 4), (0, 5)], [(0, 2)]]
BAD_SPANS = wrong_for([(0, 2)]) + [(0, 5), (1, 1), (2, 1), (0, 2, 3), [0, 3], (-1, 2), ("0", "3"), (0, 3, None),
                                   (4, 5), (0, 10 ** 30), (even(), 3), (0, None)]
BAD_BLOCKS = BAD_SPANS + [(0, 1), (1, 3), (1, 2), (3, 4), (2, 4), (1, 4)]
SIZES = [1, 10 ** 40]
BAD_SIZES = wrong_for(SIZES) + [0, -5, "3", [3], (3,)]


def tree_by_parts(row, grouping, span):
    if span[1] - span[0] == 1:
        return row[span[0]]
    return tuple(tree_by_parts(row, grouping, part) for part in try_parts(grouping, span))


def all_subtrees(names, size):
    """All trees of so many things."""
    if size == 1:
        return list(names)
    return [(left, right) for split in range(1, size)
            for left in all_subtrees(names, split) for right in all_subtrees(names, size - split)]


class Rows(unittest.TestCase):
    def test_is_row(self):
        for kinds in some_kinds():
            for row in rows_of(kinds, 1) + rows_of(kinds, 3) + [kinds.kinds() * 12]:
                self.assertIs(is_row(kinds, row), True)
        check_judge(self, lambda value: is_row(even(), value))
        for value in WRONG_ROWS:
            self.assertIs(is_row(even(), value), False)
        check_wrong(self, is_row, lambda: [("kinds", even()), ("value", ["e"])], [("kinds", InvalidKinds, WRONG_KINDS)])

    def test_kind_of(self):
        for kinds in some_kinds():
            for row in rows_of(kinds, 4):
                for first, end in combinations(range(5), 2):
                    self.assertEqual(kind_of(kinds, row, (first, end)), try_kind(kinds, row[first:end]))
        check_wrong(self, kind_of, lambda: [("kinds", even()), ("row", ["e", "o", "o", "e"]), ("some", (1, 2))],
                    [("kinds", InvalidKinds, WRONG_KINDS), ("row", InvalidRow, WRONG_ROWS),
                     ("some", InvalidBlock, BAD_SPANS)])


class Groupings(unittest.TestCase):
    def test_groupings_are_those_found_by_trial(self):
        for size in range(1, 7):
            self.assertEqual(groupings(size), try_groupings(size))
            self.assertEqual(many_groupings(size), len(try_groupings(size)))
        self.assertEqual((groupings(1), groupings(size=2)), ([[]], [[(0, 2)]]))

    def test_is_grouping_of_all_lists_of_blocks(self):
        for size in range(1, 6):
            tried = try_groupings(size)
            for many in range(6):
                for blocks in combinations(list(combinations(range(6), 2)), many):
                    self.assertIs(is_grouping(size, list(blocks)), list(blocks) in tried)
                    if many > 1:
                        self.assertIs(is_grouping(size, list(blocks)[::-1]), False)

    def test_is_grouping_of_any_object(self):
        check_judge(self, lambda value: is_grouping(1, value), [[]])
        for size in (2, 3, 4, 10 ** 40):
            check_judge(self, lambda value: is_grouping(size, value))
        for value in OF_FOUR:
            self.assertIs(is_grouping(4, value), False)
        self.assertIs(is_grouping(value=LEFT, size=4), True)
        check_wrong(self, is_grouping, lambda: [("size", 3), ("value", None)], [("size", InvalidCount, BAD_SIZES)])

    def test_many_groupings(self):
        # Each number sums the products of those of two parts.
        many = [0, 1]
        for size in range(2, 61):
            many.append(sum(many[split] * many[size - split] for split in range(1, size)))
        self.assertEqual([many_groupings(size=size) for size in range(1, 61)], many[1:])

    def test_position_and_back(self):
        for size in range(1, 10):
            for number, grouping in enumerate(groupings(size)):
                self.assertEqual(grouping_at(size, number), grouping)
                self.assertEqual(grouping_place(grouping), number)
        self.assertEqual(grouping_at(number=0, size=1), [])
        self.assertEqual(grouping_place(grouping=[]), 0)

    def test_wrong_sizes_and_numbers(self):
        for function in (groupings, many_groupings, left_tower, right_tower):
            check_wrong(self, function, lambda: [("size", 4)], [("size", InvalidCount, BAD_SIZES)])
        numbers = wrong_for([0, 1]) + [5, 6, -1, "0", [0]]
        check_wrong(self, grouping_at, lambda: [("size", 4), ("number", 4)],
                    [("size", InvalidCount, BAD_SIZES), ("number", InvalidCount, numbers)])
        check_wrong(self, grouping_at, lambda: [("size", 1), ("number", 0)], [("number", InvalidCount, [1, -1, False])])


class Parts(unittest.TestCase):
    def test_parts_around_and_within(self):
        for size, grouping in UP_TO_SIX:
            for block in grouping:
                self.assertEqual(parts_of(grouping, block), try_parts(grouping, block))
                around = [other for other in grouping
                          if other != block and set(range(*block)) <= set(range(*other))]
                self.assertEqual(block_around(grouping, block),
                                 min(around, key=lambda other: other[1] - other[0], default=None))
                inner = within(grouping, block)
                self.assertIs(is_grouping(block[1] - block[0], inner), True)
                back = [(first + block[0], end + block[0]) for first, end in inner]
                self.assertEqual(back, [other for other in grouping if set(range(*other)) <= set(range(*block))])
                self.assertEqual(put_within(grouping, block, inner), grouping)

    def test_two_things(self):
        pair = [(0, 2)]
        self.assertEqual(parts_of(grouping=pair, block=(0, 2)), ((0, 1), (1, 2)))
        self.assertIsNone(block_around(grouping=pair, block=(0, 2)))
        self.assertEqual(within(grouping=pair, block=(0, 2)), pair)
        self.assertEqual(put_within(grouping=pair, block=(0, 2), inner=[(0, 2)]), pair)
        self.assertEqual((flips([]), flips(pair), left_sum([]), left_sum(pair)), ([], [], 0, 1))

    def test_put_within(self):
        for size, grouping in UP_TO_SIX:
            for block in grouping:
                kept = [other for other in grouping if not set(range(*other)) <= set(range(*block))]
                for inner in try_groupings(block[1] - block[0]):
                    made = put_within(grouping, block, inner)
                    self.assertEqual(within(made, block), inner)
                    self.assertIs(is_grouping(size, made), True)
                    self.assertTrue(set(kept) <= set(made))

    def test_side_by_side(self):
        for many, one in UP_TO_SIX:
            for more, other in UP_TO_SIX:
                if many + more <= 7:
                    made = side_by_side(one, other)
                    self.assertIs(is_grouping(many + more, made), True)
                    self.assertEqual(parts_of(made, (0, many + more)), ((0, many), (many, many + more)))
                    self.assertEqual(within(made, (0, many)) if many > 1 else [], one)
                    self.assertEqual(within(made, (many, many + more)) if more > 1 else [], other)
        self.assertEqual(side_by_side(other=[], one=[]), [(0, 2)])

    def test_wrong_groupings_and_blocks(self):
        for function in (parts_of, block_around, within):
            check_wrong(self, function, lambda: [("grouping", list(LEFT)), ("block", (0, 3))],
                        [("grouping", InvalidGrouping, OF_ANY_NUMBER), ("block", InvalidBlock, BAD_BLOCKS)])
            check_wrong(self, function, lambda: [("grouping", list(PAIRS)), ("block", (0, 4))],
                        [("block", InvalidBlock, [(0, 3), (False, 4), (True, 4)])])
        inner = wrong_for() + [[(0, 2)], list(LEFT), [(0, 2), (1, 3)], ((0, 2), (0, 3)), [(0, 3), (0, 2)]]
        check_wrong(self, put_within,
                    lambda: [("grouping", list(LEFT)), ("block", (0, 3)), ("inner", [(0, 3), (1, 3)])],
                    [("grouping", InvalidGrouping, OF_ANY_NUMBER), ("block", InvalidBlock, BAD_BLOCKS),
                     ("inner", InvalidGrouping, inner)])
        check_wrong(self, side_by_side, lambda: [("one", list(LEFT)), ("other", [])],
                    [("one", InvalidGrouping, OF_ANY_NUMBER), ("other", InvalidGrouping, OF_ANY_NUMBER)])
        with self.assertRaises(InvalidBlock):
            parts_of([], (0, 1))


class Trees(unittest.TestCase):
    def test_trees_and_kinds_of_blocks(self):
        for kinds in some_kinds()[:4]:
            for size in range(1, 5):
                for row in rows_of(kinds, size):
                    for grouping in try_groupings(size):
                        tree = tree_of(kinds, row, grouping)
                        self.assertEqual(tree, tree_by_parts(row, grouping, (0, size)))
                        self.assertEqual(untied(kinds, tree), (row, grouping))
                        self.assertEqual(kinds_of_blocks(kinds, row, grouping),
                                         [try_kind(kinds, row[first:end]) for first, end in grouping])

    def test_untied_all_trees(self):
        for size in range(1, 5):
            for tree in all_subtrees("eo", size):
                row, grouping = untied(tree=tree, kinds=even())
                self.assertEqual(tree_of(grouping=grouping, row=row, kinds=even()), tree)

    def test_long_trees(self):
        left, right, row = "e", "e", ["e"] * 12
        for _ in range(11):
            left, right = (left, "e"), ("e", right)
        self.assertEqual(untied(even(), left), (row, left_tower(12)))
        self.assertEqual(untied(even(), right), (row, right_tower(12)))
        self.assertEqual(tree_of(even(), row, left_tower(12)), left)

    def test_wrong_arguments(self):
        for function in (tree_of, kinds_of_blocks):
            check_wrong(self, function, lambda: [("kinds", even()), ("row", ["e", "o", "o", "e"]),
                                                 ("grouping", list(LEFT))],
                        [("kinds", InvalidKinds, WRONG_KINDS), ("row", InvalidRow, WRONG_ROWS),
                         ("grouping", InvalidGrouping, OF_FOUR)])
        check_wrong(self, tree_of, lambda: [("kinds", even()), ("row", ["e"]), ("grouping", [])],
                    [("grouping", InvalidGrouping, [(), {}, [()], [(0, 1)], [(0, 2)]])])
        trees = wrong_for() + ["x", ("e", "o", "e"), ("e",), ["e", "o"], ("e", ["o", "o"]), ("e", None), ("e", ()),
                               (("e", "o"), ("o", "x")), ("e", {"o": "o"}), ("e", True), ("e", even()), ("", "e")]
        check_wrong(self, untied, lambda: [("kinds", even()), ("tree", ("e", "o"))],
                    [("kinds", InvalidKinds, WRONG_KINDS), ("tree", InvalidGrouping, trees)])


class Forms(unittest.TestCase):
    def test_towers(self):
        for size in range(1, 7):
            tried = try_groupings(size)
            self.assertEqual([left_tower(size)], [some for some in tried if all(first == 0 for first, _ in some)])
            self.assertEqual([right_tower(size)], [some for some in tried if all(end == size for _, end in some)])
        self.assertEqual((left_tower(size=1), right_tower(size=1)), ([], []))
        self.assertEqual(left_tower(60), [(0, end) for end in range(2, 61)])
        self.assertEqual(right_tower(60), [(first, 60) for first in range(59)])

    def test_left_sum_and_mirrored(self):
        for size, grouping in UP_TO_SIX:
            lefts = [try_parts(grouping, block)[0] for block in grouping]
            self.assertEqual(left_sum(grouping), sum(end - first for first, end in lefts))
            self.assertEqual(mirrored(grouping), sorted((size - end, size - first) for first, end in grouping))
            self.assertEqual(mirrored(mirrored(grouping=grouping)), grouping)
        self.assertEqual(left_sum(grouping=left_tower(60)), sum(range(1, 60)))
        self.assertEqual(mirrored(left_tower(60)), right_tower(60))

    def test_shared_blocks_and_flips(self):
        for size in range(1, 6):
            tried = try_groupings(size)
            for one in tried:
                for other in tried:
                    self.assertEqual(shared_blocks(one, other), sorted(set(one) & set(other)))
                self.assertEqual(flips(one), [other for other in tried if len(set(one) - set(other)) == 1])
        self.assertEqual(shared_blocks(other=[], one=[]), [])
        self.assertEqual(flips(grouping=[(0, 2), (0, 3)]), [[(0, 3), (1, 3)]])

    def test_wrong_groupings(self):
        for function in (grouping_place, left_sum, mirrored, flips):
            check_wrong(self, function, lambda: [("grouping", list(NEST))],
                        [("grouping", InvalidGrouping, OF_ANY_NUMBER)])
        check_wrong(self, shared_blocks, lambda: [("one", list(LEFT)), ("other", list(NEST))],
                    [("one", InvalidGrouping, OF_ANY_NUMBER), ("other", InvalidGrouping, OF_FOUR)])

    def test_what_was_passed_or_returned_may_change(self):
        grouping = list(LEFT)
        for made in (mirrored(grouping), within(grouping, (0, 4)), shared_blocks(grouping, grouping),
                     put_within(grouping, (0, 4), grouping), side_by_side(grouping, []), flips(grouping)[0],
                     untied(even(), "e")[0], groupings(4)[0], left_tower(4), right_tower(4), grouping_at(4, 0)):
            made.clear()
        groupings(4).clear()
        self.assertEqual(grouping, LEFT)
        self.assertEqual(groupings(4), try_groupings(4))
        self.assertEqual((mirrored(grouping), within(grouping, (0, 4))), (right_tower(4), LEFT))
        self.assertEqual(flips(grouping), [PAIRS, [(0, 3), (0, 4), (1, 3)]])
        row = ["e", "o", "e"]
        kinds_of_blocks(even(), row, [(0, 2), (0, 3)]).clear()
        untied(even(), ("e", "o"))[0].append("e")
        self.assertEqual((row, untied(even(), ("e", "o"))), (["e", "o", "e"], (["e", "o"], [(0, 2)])))

    def test_arguments_are_not_changed(self):
        kinds = first_kinds(["b", "a"])
        row, grouping = ["a", "b", "a", "a"], list(NEST)
        before = shown([kinds, row, grouping])
        tree_of(kinds, row, grouping)
        kinds_of_blocks(kinds, row, grouping)
        kind_of(kinds, row, (0, 4))
        for function in (parts_of, block_around, within):
            function(grouping, (1, 4))
        for function in (flips, left_sum, mirrored, grouping_place):
            function(grouping)
        side_by_side(grouping, grouping)
        put_within(grouping, (1, 4), [(0, 2), (0, 3)])
        shared_blocks(grouping, grouping)
        self.assertEqual(shown([kinds, row, grouping]), before)

    def test_pool_holds_no_grouping_but_the_empty_one(self):
        sizes = [size for size in range(1, 6) for value in pool() if is_grouping(size, value)]
        self.assertEqual(sizes, [1])


if __name__ == "__main__":
    unittest.main()
