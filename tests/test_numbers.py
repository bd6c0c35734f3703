"""Section 11: numbers of classes ([59] to [64]), with [2] for them."""

import random
import unittest

from kindshifts.combing import all_lasts, is_last, left_comb, right_comb
from kindshifts.errors import (InvalidBlock, InvalidComb, InvalidCount, InvalidGrouping, InvalidKind, InvalidRow,
                               Unsettled)
from kindshifts.groupings import grouping_at, many_groupings
from kindshifts.kinds import first_kinds
from kindshifts.numbers import (alike_numbers, always_last, class_number, is_most_row, is_one_class, last_at,
                                last_place, lasts_with, most_classes, most_row, numbers_over_rows)
from kindshifts.rules import Rule
from kindshifts.settled import settled_words
from tests.support import (check_judge, check_unsettled, check_wrong, even, every_triple, mixed, raised, rows_of,
                           rule_of, settled_combs, shown, try_along, try_blocks, try_classes, try_groupings, try_kind,
                           try_last, try_order, two_kinds, unsettled, wrong_for)
from tests.test_combing import WRONG_COMBS
from tests.test_groupings import BAD_SPANS, LEFT, OF_FOUR
from tests.test_kinds import WRONG_ROWS
from tests.test_lasts import BUT, NO_KINDS

ROW = ["o", "o", "o", "o"]
ALL = right_comb(Rule(even(), every_triple(even())))
NONE = right_comb(Rule(even(), []))
NO_BLOCKS = [value for value in BAD_SPANS if value != (0, 2)] + [(0, 1), (1, 2), (3, 4)]
WRONG_SIZES = wrong_for([1, 10 ** 40]) + [0, -5, "3", [3], (3,)]
WRONG_NUMBERS = [value for value in wrong_for([0]) if value not in (1, 10 ** 40)] + [-5, "3", [3], (3,)]


def asked():
    """Settled combs with rows of one to six things."""
    chance, found = random.Random(37), []
    for place, comb in enumerate(settled_combs()):
        names = comb.rule().kinds().kinds()
        found += [(comb, [chance.choice(names) for _ in range(size)]) for size in (1, 2, 3, 4, 5)]
        if place % 5 == 0:
            found.append((comb, [chance.choice(names) for _ in range(6)]))
    return found


def try_lasts(comb, row):
    """All last groupings of a row, in the order of splits."""
    graph = try_along(comb, row)
    return try_order([list(here) for here in graph if not graph[here]])


def catalan(size):
    return [many_groupings(many) for many in range(1, size + 1)]


class Numbers(unittest.TestCase):
    def test_numbers_and_places(self):
        for comb, row in asked():
            graph, lasts, classes = try_along(comb, row), try_lasts(comb, row), try_classes(comb.rule(), row)
            self.assertEqual(sorted(lasts), sorted(try_last(graph, found) for found in classes))
            self.assertEqual(class_number(comb, row), len(classes))
            self.assertIs(is_one_class(comb, row), len(classes) == 1)
            self.assertEqual([last_at(comb, row, number) for number in range(len(lasts))], lasts)
            for grouping in try_groupings(len(row)):
                place = lasts.index(grouping) if grouping in lasts else None
                self.assertEqual(last_place(comb, row, grouping), place)

    def test_blocks_of_last_groupings(self):
        for comb, row in asked():
            lasts = try_lasts(comb, row)
            many = {block: sum(block in last for last in lasts) for block in try_blocks(len(row))}
            for block in many:
                self.assertEqual(lasts_with(comb, row, block), many[block])
            self.assertEqual(always_last(comb, row), sorted(block for block in many if many[block] == len(lasts)))

    def test_one_thing_and_two(self):
        for comb in (mixed(), ALL, NONE):
            self.assertEqual((class_number(comb, ["o"]), is_one_class(comb, ["o"])), (1, True))
            self.assertEqual((last_at(comb, ["o"], 0), last_place(comb, ["o"], [])), ([], 0))
            self.assertEqual((always_last(comb, ["o"]), always_last(comb, ["o", "e"])), ([], [(0, 2)]))
            self.assertEqual((last_at(comb, ["o", "e"], 0), lasts_with(comb, ["o", "e"], (0, 2))), ([(0, 2)], 1))
            self.assertEqual((most_classes(comb, 1), most_classes(comb, 2)), (1, 1))
            self.assertEqual(numbers_over_rows(comb, 1), {"e": 1, "o": 1})
            self.assertEqual(numbers_over_rows(comb, 2), {"e": 2, "o": 2})

    def test_rules_without_triples_and_with_all(self):
        for size in range(1, 13):
            row = ["o", "e", "e"] * 4
            self.assertEqual(class_number(NONE, row[:size]), many_groupings(size))
            self.assertEqual(class_number(ALL, row[:size]), 1)
        self.assertEqual([last_at(NONE, ["o"] * 5, number) for number in range(14)], try_order(try_groupings(5)))
        self.assertEqual(always_last(ALL, ["o"] * 12), sorted((first, 12) for first in range(11)))
        self.assertEqual(always_last(NONE, ["o"] * 12), [(0, 12)])

    def test_rows_of_twelve_things(self):
        chance = random.Random(41)
        for comb in settled_combs()[::6] + [mixed(), NONE, BUT]:
            row = [chance.choice(comb.rule().kinds().kinds()) for _ in range(12)]
            many = class_number(comb, row)
            for number in {0, many // 2, many - 1, chance.randrange(many)}:
                last = last_at(comb, row, number)
                self.assertIs(is_last(comb, row, last), True)
                self.assertEqual(last_place(comb, row, last), number)
            some = grouping_at(12, chance.randrange(many_groupings(12)))
            self.assertIs(last_place(comb, row, some) is None, not is_last(comb, row, some))
            self.assertEqual(lasts_with(comb, row, (0, 12)), many)
            self.assertEqual(class_number(comb, row[:9]), len(all_lasts(comb, row[:9])))
        # Each last grouping has eleven blocks.
        row = ["o"] * 12
        self.assertEqual(sum(lasts_with(mixed(), row, block) for block in try_blocks(12)),
                         11 * class_number(mixed(), row))

    def test_all_settled_combs_of_a_rule_tell_the_same(self):
        for kinds in two_kinds():
            for number in range(0, 256, 5):
                rule = rule_of(kinds, number)
                if settled_words(rule) == ["left", "right"]:
                    right, left = right_comb(rule), left_comb(rule)
                    for row in rows_of(kinds, 5)[::7]:
                        self.assertEqual(class_number(right, row), class_number(left, row))
                    self.assertEqual(numbers_over_rows(right, 7), numbers_over_rows(left, 7))
                    self.assertEqual(most_classes(right, 4), most_classes(left, 4))


class OverRows(unittest.TestCase):
    def test_alike_numbers(self):
        for comb in settled_combs()[::3]:
            for kind in comb.rule().kinds().kinds():
                numbers = alike_numbers(comb, kind, 6)
                self.assertEqual(numbers, [len(try_classes(comb.rule(), [kind] * size)) for size in range(1, 7)])
                self.assertEqual(alike_numbers(size=1, kind=kind, comb=comb), [1])
                self.assertEqual(alike_numbers(comb, kind, 12), [class_number(comb, [kind] * size)
                                                                 for size in range(1, 13)])
        self.assertEqual(alike_numbers(mixed(), "o", 7), [1, 1, 2, 2, 5, 5, 14])
        self.assertEqual(alike_numbers(NONE, "e", 50), catalan(50))
        self.assertEqual(alike_numbers(ALL, "e", 50), [1] * 50)

    def test_numbers_over_rows(self):
        for comb in settled_combs()[::2]:
            kinds = comb.rule().kinds()
            for size in (1, 2, 3, 4, 5):
                if len(kinds.kinds()) == 3 and size > 4:
                    continue
                sums = {}
                for row in rows_of(kinds, size):
                    kind = try_kind(kinds, row)
                    sums[kind] = sums.get(kind, 0) + len(try_lasts(comb, row))
                self.assertEqual(shown(numbers_over_rows(comb, size)),
                                 shown({kind: sums[kind] for kind in sorted(sums)}))
        self.assertEqual(numbers_over_rows(size=20, comb=NONE), {"e": 2 ** 19 * catalan(20)[-1],
                                                                 "o": 2 ** 19 * catalan(20)[-1]})
        self.assertEqual(numbers_over_rows(ALL, 20), {"e": 2 ** 19, "o": 2 ** 19})

    def test_kinds_that_no_row_makes_are_left_out(self):
        nil = [comb for comb in settled_combs() if comb.rule().kinds().kinds() == ["m", "n"]]
        self.assertTrue(nil)
        for comb in nil:
            self.assertEqual(list(numbers_over_rows(comb, 1)), ["m", "n"])
            self.assertEqual(list(numbers_over_rows(comb, 3)), ["n"])

    def test_most_rows(self):
        for comb in settled_combs()[::2]:
            kinds = comb.rule().kinds()
            for size in (1, 2, 3, 4, 5):
                if len(kinds.kinds()) == 3 and size > 3:
                    continue
                many = {tuple(row): len(try_lasts(comb, row)) for row in rows_of(kinds, size)}
                most = max(many.values())
                self.assertEqual(most_classes(comb, size), most)
                told = most_row(comb, size)
                self.assertEqual(many[tuple(told)], most)
                self.assertIs(is_most_row(comb, size, told), True)
                for row in many:
                    self.assertIs(is_most_row(comb, size, list(row)), many[row] == most)
        self.assertEqual((most_classes(NONE, 6), most_classes(ALL, 6)), (42, 1))
        wide = first_kinds(["a", "b", "c", "d"])
        self.assertEqual(most_classes(right_comb(Rule(wide, [("a", "b", "c")])), 6), 42)

    def test_most_rows_of_any_object(self):
        check_judge(self, lambda value: is_most_row(mixed(), 4, value))
        self.assertIs(is_most_row(value=["o", "e", "o", "o"], size=4, comb=mixed()), True)
        self.assertIs(is_most_row(mixed(), 4, ["o", "e", "e", "o"]), False)
        for value in WRONG_ROWS + [("o", "o", "o", "o"), ["o"] * 3, ["o"] * 5, ["o", "o", "o", "x"]]:
            self.assertIs(is_most_row(mixed(), 4, value), False)
            self.assertIs(is_most_row(NONE, 1, value), False)


class Wrong(unittest.TestCase):
    def ask(self, function, good, wrong):
        check_wrong(self, function, lambda: list(good), wrong)
        check_unsettled(self, function, lambda: list(good), wrong)

    def test_wrong_arguments(self):
        comb, row = [("comb", mixed())], [("row", list(ROW))]
        wrong_comb, wrong_row = [("comb", InvalidComb, WRONG_COMBS)], [("row", InvalidRow, WRONG_ROWS)]
        wrong_size = [("size", InvalidCount, WRONG_SIZES)]
        for function in (class_number, is_one_class, always_last):
            self.ask(function, comb + row, wrong_comb + wrong_row)
        self.ask(last_at, comb + row + [("number", 1)],
                 wrong_comb + wrong_row + [("number", InvalidCount, WRONG_NUMBERS)])
        self.ask(last_place, comb + row + [("grouping", list(LEFT))],
                 wrong_comb + wrong_row + [("grouping", InvalidGrouping, OF_FOUR)])
        self.ask(alike_numbers, comb + [("kind", "o"), ("size", 2)],
                 wrong_comb + [("kind", InvalidKind, NO_KINDS)] + wrong_size)
        for function in (numbers_over_rows, most_classes, most_row):
            self.ask(function, comb + [("size", 2)], wrong_comb + wrong_size)
        self.ask(is_most_row, comb + [("size", 2), ("value", None)], wrong_comb + wrong_size)
        self.ask(lasts_with, comb + row + [("block", (0, 3))],
                 wrong_comb + wrong_row + [("block", InvalidBlock, NO_BLOCKS)])

    def test_unsettled_comes_ahead_of_the_bounds(self):
        comb = unsettled()
        for number in (2, 5, 10 ** 40):
            error = raised(lambda: last_at(mixed(), ROW, number))
            self.assertIs(type(error), InvalidCount)
            self.assertIs(error.value, number)
            error = raised(lambda: last_at(number=number, row=ROW, comb=comb))
            self.assertIs(type(error), Unsettled)
            self.assertIs(error.value, comb)

    def test_what_was_passed_or_returned_may_change(self):
        comb, row, grouping = mixed(), list(ROW), list(LEFT)
        before = shown([comb, row, grouping])

        def told():
            return [last_at(comb, row, 0), alike_numbers(comb, "o", 5), most_row(comb, 4), always_last(comb, row),
                    list(numbers_over_rows(comb, 3).items()), last_at(comb, ["o"], 0)]
        first = shown(told())
        for made in told():
            made.append(None)
        numbers_over_rows(comb, 3).clear()
        last_place(comb, row, grouping)
        lasts_with(comb, row, (0, 2))
        class_number(ALL, row)
        self.assertEqual(shown(told()), first)
        self.assertEqual(shown([comb, row, grouping]), before)


if __name__ == "__main__":
    unittest.main()
