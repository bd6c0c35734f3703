"""Section 14: marks ([77] to [80]), with [2] for them."""

import random
import unittest
from fractions import Fraction
from itertools import product

from kindshifts.errors import InvalidGrouping, InvalidNumbers, InvalidRow, InvalidRule
from kindshifts.kinds import Kinds, first_kinds, last_kinds, ring_kinds
from kindshifts.marks import (are_kept, are_kept_pairs, are_parting_weights, block_marks, changing_row,
                              have_like_weights, is_changing_row, kept_count, parting_weights, sorts)
from kindshifts.rules import Rule
from tests.support import (check_judge, check_wrong, even, every_triple, raised, rows_of, rule_of, seven, shown,
                           some_kinds, try_classes, try_groupings, try_kind, try_parts, two_kinds, wrong_for)
from tests.test_groupings import LEFT, OF_FOUR
from tests.test_kinds import WRONG_ROWS
from tests.test_rules import WRONG_RULES

ROW = ["o", "o", "o", "o"]
LONE = Rule(even(), [("o", "e", "o")])
FIRST = Rule(even(), [("e", "e", "o")])
NONE = Rule(even(), [])
# A wish of its triple has the number 2: (a, b) is the pair of both blocks that a deed takes out.
TWICE = Rule(Kinds({**{(x, y): "a" for x in "abc" for y in "abc"}, ("b", "b"): "c"}), [("a", "b", "b")])
PAIRS = list(product("eo", "eo"))
ONE, TWO = [(0, 3), (0, 4), (1, 3)], [(0, 2), (0, 4), (2, 4)]
WEIGHTS = {"e": 1, "o": 5}
PAIR_WEIGHTS = {("e", "e"): 1, ("e", "o"): 0, ("o", "e"): 0, ("o", "o"): 0}
WRONG_WEIGHTS = wrong_for() + [
    {"e": 1}, {"e": 1, "o": True}, {"e": False, "o": 0}, {"e": 1, "o": 5, "x": 2}, {"e": 1, "x": 5}, {"e": 1, "o": "5"},
    {"e": 1, "o": [5]}, {"e": 1, "o": None}, [("e", 1), ("o", 5)], {("e",): 1, "o": 5}, {"e": 1, 0: 5}, [1, 5], (1, 5),
    {"e": (1,), "o": (5,)}, dict(PAIR_WEIGHTS)]
WRONG_PAIR_WEIGHTS = wrong_for() + [
    {pair: 0 for pair in PAIRS[:3]}, {**PAIR_WEIGHTS, ("e", "x"): 0}, {**PAIR_WEIGHTS, ("e", "o"): True},
    {**PAIR_WEIGHTS, ("e", "o"): False}, {**PAIR_WEIGHTS, ("e", "o"): "0"}, {**PAIR_WEIGHTS, ("e", "o"): [0]},
    {**{pair: 0 for pair in PAIRS[:3]}, ("o", "x"): 0}, {**{pair: 0 for pair in PAIRS[:3]}, "oo": 0},
    {pair: (0, 0, 0) for pair in PAIRS}, list(PAIR_WEIGHTS.items()), dict(WEIGHTS), even()]


def some_rules():
    """Rules of one to four kinds, with few triples and with many."""
    chance, found = random.Random(41), [rule_of(kinds, number) for kinds in two_kinds() for number in range(0, 256, 11)]
    for kinds in some_kinds() * 4:
        share = chance.choice([0.05, 0.1, 0.3, 1])
        found.append(Rule(kinds, [triple for triple in every_triple(kinds) if chance.random() < share]))
    return found + [NONE, LONE, FIRST, seven(), TWICE, Rule(TWICE.kinds(), every_triple(TWICE.kinds())),
                    Rule(first_kinds(["z"]), []), Rule(first_kinds(["z"]), [("z",) * 3])]


def try_sorts(rule):
    """Lists of one kind each that are poured together as long as a triple asks for it."""
    kinds, lists = rule.kinds(), [[name] for name in rule.kinds().kinds()]
    for a, b, c in rule.triples():
        both = [held for held in lists if kinds.put(a, b) in held or kinds.put(b, c) in held]
        lists = [held for held in lists if held not in both] + [sorted(sum(both, []))]
    return sorted(lists)


def try_pairs(kinds, row, grouping):
    """The pairs of the blocks, by [43]."""
    return [tuple(try_kind(kinds, row[first:end]) for first, end in try_parts(grouping, block)) for block in grouping]


def try_kinds_made(kinds, row, grouping):
    return [try_kind(kinds, row[first:end]) for first, end in grouping]


def try_changes(rule, told, size):
    """For all classes of all rows of up to so many things how often what is told of a grouping changes."""
    found = []
    for row in [row for many in range(1, size + 1) for row in rows_of(rule.kinds(), many)]:
        for some in try_classes(rule, row):
            first = told(rule.kinds(), row, some[0])
            for other in some[1:]:
                behind = told(rule.kinds(), row, other)
                change = {key: behind.count(key) - first.count(key) for key in set(first + behind)}
                if any(change.values()) and change not in found:
                    found.append(change)
    return found


def try_rank(rows):
    """How many of some rows do not follow from others, in fractions."""
    rows, rank = [[Fraction(number) for number in row] for row in rows], 0
    for column in range(len(rows[0]) if rows else 0):
        pivots = [row for row in rows[rank:] if row[column]]
        if pivots:
            rows.remove(pivots[0])
            rows.insert(rank, pivots[0])
            rows[rank + 1:] = [[number - row[column] / pivots[0][column] * less for number, less in zip(row, pivots[0])]
                               for row in rows[rank + 1:]]
            rank += 1
    return rank


class Sorts(unittest.TestCase):
    def test_sorts(self):
        for rule in some_rules() + [rule_of(kinds, number) for kinds in two_kinds() for number in range(256)]:
            self.assertEqual(sorts(rule=rule), try_sorts(rule))
        self.assertEqual(sorts(NONE), [["e"], ["o"]])
        self.assertEqual(sorts(Rule(last_kinds(["c", "a", "b"]), [])), [["a"], ["b"], ["c"]])
        ring = ring_kinds(["z", "a", "m", "b"])
        self.assertEqual(sorts(Rule(ring, [("a", "z", "b")])), [["a", "b"], ["m"], ["z"]])
        self.assertEqual(sorts(Rule(ring, [("a", "z", "b"), ("m", "z", "b")])), [["a", "b", "m"], ["z"]])

    def test_block_marks(self):
        chance = random.Random(43)
        for rule in some_rules()[::3]:
            for size in (1, 2, 3, 4, 5):
                row = [chance.choice(rule.kinds().kinds()) for _ in range(size)]
                for found in try_classes(rule, row):
                    told = [block_marks(rule, row, grouping) for grouping in found]
                    for grouping, marks in zip(found, told):
                        made = try_kinds_made(rule.kinds(), row, grouping)
                        self.assertEqual(marks, [sum(name in sort for name in made) for sort in try_sorts(rule)])
                    # Joined groupings have the same marks.
                    self.assertEqual(told, [told[0]] * len(told))
        self.assertEqual(block_marks(grouping=[], row=["e"], rule=NONE), [0, 0])
        # The same marks tell nothing.
        self.assertEqual(block_marks(FIRST, ROW, ONE), block_marks(FIRST, ROW, TWO))
        self.assertEqual(try_classes(FIRST, ROW), [[grouping] for grouping in try_groupings(4)])


class Weights(unittest.TestCase):
    def test_kept_over_all_classes(self):
        for rule in some_rules()[::2]:
            if len(rule.kinds().kinds()) < 4:
                changes = try_changes(rule, try_kinds_made, 4)
                for numbers in product((0, 3, -2), repeat=len(rule.kinds().kinds())):
                    weights = dict(reversed(list(zip(rule.kinds().kinds(), numbers))))
                    kept = all(sum(weights[key] * many for key, many in change.items()) == 0 for change in changes)
                    self.assertIs(are_kept(rule, weights), kept)
                    by_sorts = all(len({weights[name] for name in sort}) == 1 for sort in sorts(rule))
                    self.assertIs(kept, by_sorts)
                    self.ask_rows(rule, weights, kept)

    def ask_rows(self, rule, weights, kept):
        row = changing_row(rule, weights)
        self.assertIs(row is None, kept)
        kinds = rule.kinds()
        for some in rows_of(kinds, 3):
            unlike = weights[kinds.put(some[0], some[1])] != weights[kinds.put(some[1], some[2])]
            self.assertIs(is_changing_row(rule, weights, some), unlike and tuple(some) in rule.triples())
        self.assertIs(is_changing_row(value=row, weights=weights, rule=rule), not kept)

    def test_four_kinds_and_great_numbers(self):
        ring = ring_kinds(["a", "b", "c", "d"])
        rule = Rule(ring, [("b", "a", "c")])
        great = {"a": 10 ** 29, "b": -10 ** 29, "c": 7, "d": -10 ** 29}
        self.assertEqual(sorts(rule), [["a"], ["b", "c"], ["d"]])
        self.assertEqual(changing_row(rule, great), ["b", "a", "c"])
        self.assertIs(are_kept(weights={**great, "c": -10 ** 29}, rule=rule), True)
        self.assertIs(are_kept(rule, {**great, "c": 1 - 10 ** 29}), False)

    def test_any_object(self):
        check_judge(self, lambda value: is_changing_row(FIRST, WEIGHTS, value))
        check_judge(self, lambda value: is_changing_row(LONE, WEIGHTS, value))
        for value in [("e", "e", "o"), ["e", "e"], ["e", "e", "o", "o"], ["e", "e", "x"], [["e", "e", "o"]], "eeo",
                      [("e", "e", "o")], ["e", "e", ["o"]], ["e", "e", even()]]:
            self.assertIs(is_changing_row(FIRST, WEIGHTS, value), False)
        self.assertIs(is_changing_row(FIRST, WEIGHTS, ["e", "e", "o"]), True)


class PairWeights(unittest.TestCase):
    def test_kept_over_all_classes(self):
        chance = random.Random(47)
        for rule in some_rules()[::2]:
            pairs = list(product(rule.kinds().kinds(), repeat=2))
            if len(pairs) < 10:
                changes = try_changes(rule, try_pairs, 4)
                rank = try_rank([[change.get(pair, 0) for pair in pairs] for change in changes])
                self.assertEqual(kept_count(rule), len(pairs) - rank)
                for _ in range(30):
                    chance.shuffle(pairs)
                    weights = {pair: chance.choice((0, 0, 0, 1, -2)) for pair in pairs}
                    kept = all(sum(weights[key] * many for key, many in change.items()) == 0 for change in changes)
                    self.assertIs(are_kept_pairs(rule, weights), kept)

    def test_the_number_by_wishes(self):
        for rule in some_rules():
            pairs, put, rows = list(product(rule.kinds().kinds(), repeat=2)), rule.kinds().put, []
            for a, b, c in rule.triples():
                out, new = [(a, b), (put(a, b), c)], [(b, c), (a, put(b, c))]
                rows.append([out.count(pair) - new.count(pair) for pair in pairs])
            self.assertEqual(kept_count(rule=rule), len(pairs) - try_rank(rows))
        # Weights of which all are the same are always kept.
        self.assertTrue(all(kept_count(rule) > 0 for rule in some_rules()))
        self.assertEqual([kept_count(Rule(first_kinds(["z"]), held)) for held in ([], [("z",) * 3])], [1, 1])

    def test_great_numbers_told_exactly(self):
        great = {("e", "e"): 0, ("e", "o"): 10 ** 29, ("o", "e"): 10 ** 29, ("o", "o"): -7}
        self.assertIs(are_kept_pairs(weights=great, rule=LONE), True)
        self.assertIs(are_kept_pairs(LONE, {**great, ("o", "e"): 10 ** 29 + 1}), False)
        self.assertIs(are_kept_pairs(NONE, {**great, ("o", "e"): 10 ** 29 + 1}), True)


class Parting(unittest.TestCase):
    def test_parting_weights(self):
        chance = random.Random(53)
        for rule in some_rules():
            kinds, size = rule.kinds(), chance.choice([1, 2, 3, 4, 4, 5])
            row = [chance.choice(kinds.kinds()) for _ in range(size)]
            pairs = list(product(kinds.kinds(), repeat=2))
            wishes = [[change.get(pair, 0) for pair in pairs] for change in self.changes(rule)]
            for one, other in list(product(try_groupings(size), repeat=2))[::3]:
                ours, theirs = try_pairs(kinds, row, one), try_pairs(kinds, row, other)
                change = [ours.count(pair) - theirs.count(pair) for pair in pairs]
                there_are = try_rank(wishes + [change]) > try_rank(wishes)
                self.ask(rule, row, one, other, there_are)

    def changes(self, rule):
        put, found = rule.kinds().put, []
        for a, b, c in rule.triples():
            out, new = [(a, b), (put(a, b), c)], [(b, c), (a, put(b, c))]
            found.append({pair: out.count(pair) - new.count(pair) for pair in out + new})
        return found

    def ask(self, rule, row, one, other, there_are):
        weights = parting_weights(rule, row, one, other)
        self.assertIs(weights is not None, there_are)
        self.assertIs(have_like_weights(rule, row, one, other), not there_are)
        self.assertIs(are_parting_weights(rule, row, one, other, weights), there_are)
        if there_are:
            self.assertIs(are_kept_pairs(rule, weights), True)
            sums = [sum(weights[pair] for pair in try_pairs(rule.kinds(), row, some)) for some in (one, other)]
            self.assertNotEqual(sums[0], sums[1])
            self.assertFalse(any(one in found and other in found for found in try_classes(rule, row)))
            self.assertIs(are_parting_weights(rule, row, one, one, weights), False)

    def test_wishes_with_a_number_that_is_not_one(self):
        row = ["a", "b", "b", "c"]
        self.assertEqual(kept_count(TWICE), 8)
        for one, other in product(try_groupings(4), repeat=2):
            weights = parting_weights(TWICE, row, one, other)
            self.assertIs(are_parting_weights(TWICE, row, one, other, weights), weights is not None)
            self.assertIs(weights is None, have_like_weights(TWICE, row, one, other))
        self.assertIsNone(parting_weights(TWICE, row, LEFT, ONE))
        self.assertIsNotNone(parting_weights(TWICE, row, LEFT, TWO))

    def test_weights_that_are_kept_and_part(self):
        chance = random.Random(59)
        for rule in (LONE, FIRST, NONE, seven()):
            for _ in range(200):
                weights = {pair: chance.choice((0, 1, 1, -3)) for pair in PAIRS}
                one, other = chance.choice(try_groupings(4)), chance.choice(try_groupings(4))
                sums = [sum(weights[pair] for pair in try_pairs(even(), ROW, some)) for some in (one, other)]
                self.assertIs(are_parting_weights(value=weights, other=other, one=one, row=ROW, rule=rule),
                              are_kept_pairs(rule, weights) and sums[0] != sums[1])

    def test_rows_of_twelve_things(self):
        row = ["o", "e"] * 6
        one, other = [(0, end) for end in range(2, 13)], [(first, 12) for first in range(11)]
        self.assertIs(have_like_weights(seven(), row, one, other), parting_weights(seven(), row, one, other) is None)
        self.assertIs(are_parting_weights(NONE, row, one, other, parting_weights(NONE, row, one, other)), True)

    def test_any_object(self):
        check_judge(self, lambda value: are_parting_weights(LONE, ROW, LEFT, TWO, value))
        self.assertIs(are_parting_weights(LONE, ROW, LEFT, TWO, PAIR_WEIGHTS), True)
        for value in WRONG_PAIR_WEIGHTS:
            self.assertIs(are_parting_weights(LONE, ROW, LEFT, TWO, value), False)
        self.assertIsNone(parting_weights(NONE, ["e"], [], []))
        self.assertIs(are_parting_weights(NONE, ["e"], [], [], None), False)


class Wrong(unittest.TestCase):
    def test_wrong_arguments(self):
        rule, wrong = [("rule", LONE)], [("rule", InvalidRule, WRONG_RULES)]
        for function in (sorts, kept_count):
            check_wrong(self, function, lambda: list(rule), wrong)
        weighed = wrong + [("weights", InvalidNumbers, WRONG_WEIGHTS)]
        for function in (are_kept, changing_row):
            check_wrong(self, function, lambda: rule + [("weights", dict(WEIGHTS))], weighed)
        check_wrong(self, is_changing_row, lambda: rule + [("weights", dict(WEIGHTS)), ("value", None)], weighed)
        check_wrong(self, are_kept_pairs, lambda: rule + [("weights", dict(PAIR_WEIGHTS))],
                    wrong + [("weights", InvalidNumbers, WRONG_PAIR_WEIGHTS)])
        rows = wrong + [("row", InvalidRow, WRONG_ROWS)]
        check_wrong(self, block_marks, lambda: rule + [("row", list(ROW)), ("grouping", list(LEFT))],
                    rows + [("grouping", InvalidGrouping, OF_FOUR)])
        both = [("row", list(ROW)), ("one", list(LEFT)), ("other", list(TWO))]
        rows += [("one", InvalidGrouping, OF_FOUR), ("other", InvalidGrouping, OF_FOUR)]
        for function in (parting_weights, have_like_weights):
            check_wrong(self, function, lambda: rule + both, rows)
        check_wrong(self, are_parting_weights, lambda: rule + both + [("value", None)], rows)

    def test_weights_of_other_kinds(self):
        error = raised(lambda: are_kept(Rule(first_kinds(["z"]), []), WEIGHTS))
        self.assertIs(type(error), InvalidNumbers)
        self.assertIs(error.value, WEIGHTS)

    def test_what_was_passed_or_returned_may_change(self):
        rule, weights, row, one, two = LONE, {"o": 5, "e": 1}, list(ROW), list(LEFT), list(TWO)
        before = shown([rule, weights, row, one, two])

        def told():
            return [sorts(rule), sorts(rule)[0], block_marks(rule, row, one), changing_row(FIRST, weights)]
        first = shown([told(), parting_weights(rule, row, one, two)])
        for made in told():
            made.append(None)
        parting_weights(rule, row, one, two).clear()
        self.assertEqual(shown([told(), parting_weights(rule, row, one, two)]), first)
        self.assertEqual(shown([rule, weights, row, one, two]), before)


if __name__ == "__main__":
    unittest.main()
