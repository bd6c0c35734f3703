"""Section 12: classes ([65] to [70]), with [2] for them."""

import random
import unittest

from kindshifts.classes import (block_numbers, class_at, class_place, class_size, classes_by_size, common_blocks,
                                greatest_last, grouping_with, grouping_without, is_greatest_last, is_grouping_with,
                                is_grouping_without, size_by_splits, splits_of)
from kindshifts.combing import left_comb, right_comb
from kindshifts.errors import InvalidBlock, InvalidComb, InvalidCount, InvalidGrouping, InvalidRow, Unsettled
from kindshifts.groupings import grouping_at, groupings, left_tower
from kindshifts.rules import Rule
from tests.support import (check_judge, check_unsettled, check_wrong, even, every_triple, mixed, raised, settled_combs,
                           shown, try_along, try_blocks, try_classes, try_groupings, try_last, try_order, try_parts,
                           unsettled)
from tests.test_combing import WRONG_COMBS
from tests.test_groupings import BAD_GROUPINGS, LEFT, OF_FOUR
from tests.test_kinds import WRONG_ROWS
from tests.test_numbers import NO_BLOCKS, WRONG_NUMBERS, asked

ROW = ["o", "o", "o", "o"]
ONE, TWO, RIGHT = [(0, 3), (0, 4), (1, 3)], [(0, 4), (1, 3), (1, 4)], [(0, 4), (1, 4), (2, 4)]
ALL = right_comb(Rule(even(), every_triple(even())))
NONE = right_comb(Rule(even(), []))


class Classes(unittest.TestCase):
    def test_classes_are_those_found_by_trial(self):
        for comb, row in asked()[::2]:
            for found in try_classes(comb.rule(), row):
                some = found[len(found) // 2]
                self.assertEqual(class_size(comb, row, some), len(found))
                order = try_order(found)
                self.assertEqual([class_at(comb, row, some, number) for number in range(len(found))], order)
                self.assertEqual([class_place(comb, row, grouping) for grouping in order], list(range(len(found))))
                self.ask_splits(comb, row, some, found)
                self.ask_blocks(comb, row, some, found)

    def ask_splits(self, comb, row, some, found):
        splits = [try_parts(grouping, (0, len(row)))[0][1] for grouping in found if grouping]
        self.assertEqual(splits_of(comb, row, some), sorted(set(splits)))
        self.assertEqual(shown(size_by_splits(comb, row, some)),
                         shown({split: splits.count(split) for split in sorted(set(splits))}))

    def ask_blocks(self, comb, row, some, found):
        many = {block: sum(block in grouping for grouping in found) for block in try_blocks(len(row))}
        self.assertEqual(shown(block_numbers(comb, row, some)),
                         shown({block: many[block] for block in sorted(many) if many[block]}))
        self.assertEqual(common_blocks(comb, row, some), sorted(block for block in many if many[block] == len(found)))
        for block in many:
            having, lacking = grouping_with(comb, row, some, block), grouping_without(comb, row, some, block)
            good = [grouping for grouping in found if block in grouping]
            bad = [grouping for grouping in found if block not in grouping]
            self.assertTrue(having in good if good else having is None)
            self.assertTrue(lacking in bad if bad else lacking is None)
            self.assertIs(is_grouping_with(comb, row, some, block, having), having is not None)
            self.assertIs(is_grouping_without(comb, row, some, block, lacking), lacking is not None)
            for grouping in try_groupings(len(row))[::4]:
                self.assertIs(is_grouping_with(comb, row, some, block, grouping), grouping in good)
                self.assertIs(is_grouping_without(comb, row, some, block, grouping), grouping in bad)

    def test_classes_by_size(self):
        for comb, row in asked():
            classes, graph = try_classes(comb.rule(), row), try_along(comb, row)
            sizes = [len(found) for found in classes]
            self.assertEqual(shown(classes_by_size(comb, row)),
                             shown({size: sizes.count(size) for size in sorted(set(sizes))}))
            lasts = [try_last(graph, found) for found in classes if len(found) == max(sizes)]
            self.assertIn(greatest_last(comb, row), lasts)
            for grouping in try_groupings(len(row))[::3] + lasts:
                self.assertIs(is_greatest_last(comb, row, grouping), grouping in lasts)

    def test_one_thing_and_two(self):
        for comb in (mixed(), ALL, NONE):
            self.assertEqual((splits_of(comb, ["o"], []), size_by_splits(comb, ["o"], [])), ([], {}))
            self.assertEqual((class_size(comb, ["o"], []), class_at(comb, ["o"], [], 0)), (1, []))
            self.assertEqual((class_place(comb, ["o"], []), block_numbers(comb, ["o"], [])), (0, {}))
            self.assertEqual((common_blocks(comb, ["o"], []), classes_by_size(comb, ["o"])), ([], {1: 1}))
            self.assertEqual((greatest_last(comb, ["o"]), is_greatest_last(comb, ["o"], [])), ([], True))
            two, only = ["o", "e"], [(0, 2)]
            self.assertEqual((splits_of(comb, two, only), size_by_splits(comb, two, only)), ([1], {1: 1}))
            self.assertEqual((grouping_with(comb, two, only, (0, 2)), common_blocks(comb, two, only)), (only, only))
            self.assertIsNone(grouping_without(comb, two, only, (0, 2)))

    def test_rows_of_eight_things(self):
        row, start = ["o", "e"] * 4, left_tower(8)
        self.assertEqual((class_size(ALL, row, start), classes_by_size(ALL, row)), (429, {429: 1}))
        self.assertEqual(size_by_splits(ALL, row, start), {1: 132, 2: 42, 3: 28, 4: 25, 5: 28, 6: 42, 7: 132})
        self.assertEqual([class_at(ALL, row, start, number) for number in (0, 131, 132, 428)],
                         [try_order(groupings(8))[number] for number in (0, 131, 132, 428)])
        self.assertEqual(class_place(ALL, row, start), 428)
        self.assertEqual(classes_by_size(NONE, row), {1: 429})
        self.assertEqual(block_numbers(ALL, row, start)[(3, 5)], 132)
        chance = random.Random(43)
        for comb in settled_combs()[::9]:
            row = [chance.choice(comb.rule().kinds().kinds()) for _ in range(8)]
            some = grouping_at(8, chance.randrange(429))
            size = class_size(comb, row, some)
            self.assertEqual(class_at(comb, row, some, class_place(comb, row, some)), some)
            self.assertEqual(sum(block_numbers(comb, row, some).values()), 7 * size)
            self.assertEqual(sum(size * many for size, many in classes_by_size(comb, row).items()), 429)

    def test_all_settled_combs_of_a_rule_tell_the_same(self):
        right, left = right_comb(ALL.rule()), left_comb(ALL.rule())
        for row in (ROW, ["o", "e", "e", "o", "e"]):
            for some in try_groupings(len(row)):
                self.assertEqual(class_at(right, row, some, 1), class_at(left, row, some, 1))
                self.assertEqual(block_numbers(right, row, some), block_numbers(left, row, some))
            self.assertNotEqual(greatest_last(right, row), greatest_last(left, row))

    def test_any_object(self):
        comb = mixed()
        check_judge(self, lambda value: is_grouping_with(comb, ROW, ONE, (1, 3), value))
        check_judge(self, lambda value: is_grouping_with(comb, ROW, LEFT, (1, 3), value))
        check_judge(self, lambda value: is_grouping_without(comb, ROW, LEFT, (1, 3), value))
        check_judge(self, lambda value: is_grouping_without(comb, ROW, ONE, (1, 3), value))
        check_judge(self, lambda value: is_greatest_last(comb, ROW, value))
        check_judge(self, lambda value: is_greatest_last(comb, ["o"], value), [[]])
        self.assertIs(is_grouping_with(value=TWO, block=(1, 4), grouping=ONE, row=ROW, comb=comb), True)
        self.assertIs(is_grouping_without(value=ONE, block=(1, 4), grouping=TWO, row=ROW, comb=comb), True)
        self.assertIs(is_greatest_last(value=RIGHT, row=ROW, comb=comb), True)
        for wrong in BAD_GROUPINGS:
            self.assertIs(is_grouping_with(ALL, ROW, ONE, (0, 4), wrong), False)
            self.assertIs(is_grouping_without(ALL, ROW, ONE, (1, 4), wrong), False)
            self.assertIs(is_greatest_last(NONE, ROW, wrong), False)


class Wrong(unittest.TestCase):
    def ask(self, function, good, wrong):
        check_wrong(self, function, lambda: list(good), wrong)
        check_unsettled(self, function, lambda: list(good), wrong)

    def test_wrong_arguments(self):
        row, there = [("comb", mixed()), ("row", list(ROW))], [("grouping", list(LEFT))]
        wrong_row = [("comb", InvalidComb, WRONG_COMBS), ("row", InvalidRow, WRONG_ROWS)]
        wrong = wrong_row + [("grouping", InvalidGrouping, OF_FOUR)]
        for function in (splits_of, class_size, size_by_splits, class_place, block_numbers, common_blocks):
            self.ask(function, row + there, wrong)
        self.ask(class_at, row + there + [("number", 1)], wrong + [("number", InvalidCount, WRONG_NUMBERS)])
        kept, wrong_kept = [("block", (0, 3))], [("block", InvalidBlock, NO_BLOCKS)]
        for function in (grouping_with, grouping_without):
            self.ask(function, row + there + kept, wrong + wrong_kept)
        for function in (is_grouping_with, is_grouping_without):
            self.ask(function, row + there + kept + [("value", None)], wrong + wrong_kept)
        for function in (classes_by_size, greatest_last):
            self.ask(function, row, wrong_row)
        self.ask(is_greatest_last, row + [("value", None)], wrong_row)

    def test_unsettled_comes_ahead_of_the_bounds(self):
        comb = unsettled()
        for number in (3, 10 ** 40):
            error = raised(lambda: class_at(mixed(), ROW, LEFT, number))
            self.assertIs(type(error), InvalidCount)
            self.assertIs(error.value, number)
            error = raised(lambda: class_at(number=number, grouping=LEFT, row=ROW, comb=comb))
            self.assertIs(type(error), Unsettled)
            self.assertIs(error.value, comb)
        self.assertEqual(class_at(mixed(), ROW, LEFT, 2), LEFT)

    def test_blocks_that_no_grouping_at_hand_has(self):
        self.assertIsNone(grouping_with(mixed(), ROW, LEFT, (1, 3)))
        self.assertEqual(grouping_without(NONE, ROW, LEFT, (2, 4)), LEFT)

    def test_what_was_passed_or_returned_may_change(self):
        comb, row, grouping = mixed(), list(ROW), list(LEFT)
        before = shown([comb, row, grouping])

        def told():
            return [splits_of(comb, row, grouping), class_at(comb, row, grouping, 2),
                    common_blocks(comb, row, grouping), grouping_with(comb, row, grouping, (0, 3)),
                    grouping_without(comb, row, grouping, (2, 4)), greatest_last(comb, row),
                    grouping_with(NONE, row, grouping, (0, 2))]

        def tables():
            return [size_by_splits(comb, row, grouping), block_numbers(comb, row, grouping), classes_by_size(comb, row)]
        first = shown([told(), tables()])
        for made in told():
            made.append(None)
        for made in tables():
            made.clear()
        class_size(ALL, row, grouping)
        self.assertEqual(shown([told(), tables()]), first)
        self.assertEqual(shown([comb, row, grouping]), before)


if __name__ == "__main__":
    unittest.main()
