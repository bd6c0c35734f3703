"""Section 16: whole numbers ([87] to [92]), with [2] for them."""

import random
import unittest
from functools import lru_cache
from itertools import combinations, product

from kindshifts.ending import are_layers
from kindshifts.errors import InvalidBlock, InvalidCount, InvalidGrouping, InvalidKinds, InvalidPlaces, InvalidRow
from kindshifts.groupings import grouping_at, many_groupings
from kindshifts.kinds import Kinds, first_kinds, is_table, neutral, ring_kinds
from kindshifts.noughts import (alike_in_noughts, are_noughts, combing_deeds, is_free, is_nought_chain, is_nought_last,
                                joining_places, neutral_comb, nought_chain, nought_classes, nought_deeds, nought_joined,
                                nought_last, nought_lasts, nought_stretches, row_with)
from kindshifts.settled import is_settled
from tests.support import (all_places, check_judge, check_wrong, even, number_rows, raised, some_kinds, shown,
                           try_deeds, try_done, try_groupings, try_heads, try_nought_let, try_noughts, try_poured,
                           wrong_for)
from tests.test_groupings import BAD_GROUPINGS, LEFT, OF_FOUR, PAIRS
from tests.test_kinds import WRONG_KINDS
from tests.test_rules import WRONG_FORM

ROW = [1, -1, 1, -1]
NEST = [(0, 4), (1, 3), (1, 4)]
WRONG_ROWS = wrong_for([[0, 2]]) + [(1, -1), [True], [1, False], [0, "1"], [1, [1]], [1, (1,)], [1, None], {0: 1}, "12",
                                    12, [[1]],
                            [1, even()]]
WRONG_PLACES = wrong_for() + [
    [], ["b", "a"], ["c", "b"], ["c", "a"], ["a", "a"], ["a", "c", "b"], ["whole"], ["a", "whole"], ["b", "whole"],
    ["c", "whole"], ["a", "b", "whole"], ["a", "c", "whole"], ["b", "c", "whole"], ["whole", "a", "b", "c"], ("a",),
    ("a", "b"), "a", "ab", "abc", ["ab"], ["A"], ["d"], ["a", "b", "c", "d"], ["a", "b", "c", "whole", "a"], [["a"]],
    {"a": "b"}, ["a", None], ["a", 1], ["a", ["b"]], [("a",)], ["a", even()], ["a", ""]]
WRONG_STRETCHES = [((0, 2),), [[0, 2]], [(0, 2, 3)], [(0, 5)], [(1, 1)], [(2, 1)], [(-1, 2)], [(False, 2)], [(0, True)],
                   [("0", "2")], [(0, 2), (0, 1)], [(0, 2), (0, 2)], [(0, 1), (1, 2)], [(0, 1), (0, 2)],
                   [(0, 2), (1, 2)],
                   [(0, 2), None], (0, 2), {(0, 2): 1}, [(0, 4), (2, 4)], [[]], [(0, 10 ** 20)], [even()]]


def try_word(places, noughts):
    """The word of the let deeds that go along, by [88]."""
    a, b, c, _ = noughts
    if places in (["b", "c"], ["a", "b", "c"], ["a", "b", "c", "whole"]) and b and not c:
        return "left"
    return "left" if places == ["a", "c"] and a and b and not c else "right"


@lru_cache(maxsize=None)
def asked():
    """Rows of one to five things in all ways of being alike in noughts, and some of six."""
    return [row for size in (1, 2, 3, 4) for row in number_rows(size)] + number_rows(5)[::5] + number_rows(6)[::43]


@lru_cache(maxsize=None)
def all_monoids(size):
    """All Kinds of so many words with a neutral one, which is any of them."""
    names, found = "mabz"[:size], []
    others = [name for name in names if name != "m"]
    pairs = list(product(others, repeat=2))
    for goals in product(names, repeat=len(pairs)):
        table = {**dict(zip(pairs, goals)), **{("m", name): name for name in names},
                 **{(name, "m"): name for name in names}}
        if is_table(table):
            found.append(Kinds(table))
    return found


class Deeds(unittest.TestCase):
    def test_stretches(self):
        for row in asked():
            found = [(first, end) for first in range(len(row)) for end in range(first + 1, len(row) + 1)
                     if sum(row[first:end]) == 0]
            self.assertEqual(nought_stretches(row=row), found)
        self.assertEqual(nought_stretches([0]), [(0, 1)])
        self.assertEqual(nought_stretches([0, 0]), [(0, 1), (0, 2), (1, 2)])
        self.assertEqual(nought_stretches([7]), [])
        self.assertEqual(nought_stretches([10 ** 30, -10 ** 30, 1]), [(0, 2)])

    def test_deeds(self):
        for row in asked()[::2]:
            for places in all_places():
                for grouping in try_groupings(len(row)):
                    let = [deed for deed in try_deeds(grouping) if self.is_let(places, try_noughts(row, deed))]
                    self.assertEqual(nought_deeds(row, places, grouping), let)
                    along = [deed for deed in let if deed[0] == try_word(places, try_noughts(row, deed))]
                    self.assertEqual(combing_deeds(row, places, grouping), along)
                    self.assertIs(is_nought_last(row, places, grouping), not along)

    def is_let(self, places, noughts):
        told = dict(zip(["a", "b", "c", "whole"], noughts))
        return any(told[place] for place in places)

    def test_words_of_deeds_for_all_places(self):
        # All ways in which A, B, C and all three together may be nought, as things.
        for row in ([1, 1, 1], [0, 1, 1], [1, 0, 1], [1, 1, 0], [0, 0, 1], [0, 1, 0], [1, 0, 0], [0, 0, 0], [1, 1, -2],
                    [0, 1, -1], [1, 0, -1], [1, -1, 0]):
            for places in all_places():
                noughts = [row[0] == 0, row[1] == 0, row[2] == 0, sum(row) == 0]
                word = try_word(places, noughts)
                there = {"right": [(0, 2), (0, 3)], "left": [(0, 3), (1, 3)]}[word]
                let = self.is_let(places, noughts)
                self.assertEqual(combing_deeds(places=places, row=row, grouping=there), [(word, 0, 1, 2, 3)]
                                 if let else [])
                other = [(0, 3), (1, 3)] if word == "right" else [(0, 2), (0, 3)]
                self.assertEqual(combing_deeds(row, places, other), [])

    def test_any_object(self):
        for places in all_places():
            check_judge(self, lambda value: is_nought_last(ROW, places, value))
            check_judge(self, lambda value: is_nought_last([7], places, value), [[]])
            for wrong in BAD_GROUPINGS:
                self.assertIs(is_nought_last([1, 2, 3, 4], places, wrong), False)
            self.assertIs(is_nought_last(value=LEFT, places=places, row=[1, 2, 3, 4]), True)


class Lasts(unittest.TestCase):
    def test_against_all_groupings(self):
        for row in asked():
            for places in all_places():
                graph = try_nought_let(row, places)
                along = {here: [deed for deed, _ in steps if deed[0] == try_word(places, try_noughts(row, deed))]
                         for here, steps in graph.items()}
                classes = try_poured(graph)
                lasts = []
                for found in classes:
                    last = [some for some in found if not along[tuple(some)]]
                    self.assertEqual(len(last), 1)
                    lasts += last
                    for grouping in found[::3]:
                        self.assertEqual(nought_last(row, places, grouping), last[0])
                self.assertEqual(nought_classes(row, places), len(classes))
                self.assertEqual(nought_lasts(row, places), sorted(lasts))
                self.assertIs(is_free(row, places), len(classes) == 1)

    def test_any_deeds_along_lead_to_the_same(self):
        chance = random.Random(89)
        for row in number_rows(5)[::9] + number_rows(6)[::71]:
            for places in all_places():
                grouping = chance.choice(try_groupings(len(row)))
                there = grouping
                while combing_deeds(row, places, there):
                    there = try_done(there, chance.choice(combing_deeds(row, places, there)))
                self.assertEqual(nought_last(row, places, grouping), there)

    def test_edges(self):
        for places in all_places():
            self.assertEqual(nought_lasts(places=places, row=[5]), [[]])
            self.assertEqual(nought_last(row=[0], places=places, grouping=[]), [])
            self.assertIs(is_free(places=places, row=[0]), True)
            self.assertEqual(nought_classes(row=[3, 4], places=places), 1)
            self.assertEqual(nought_classes([1, 2, 3, 4], places), 5)
            self.assertEqual(nought_classes([0] * 6, places), 1)
            self.assertEqual(nought_lasts([0] * 5, places), [[(first, 5) for first in range(4)]])
        self.assertEqual([nought_classes([1, 1, -2], places) for places in all_places()], [2, 2, 2, 2, 2, 2, 2, 1])

    def test_rows_of_twelve_things(self):
        for row in ([1, -1] * 6, [0] * 12, [1] * 12, [0, 99, -99, 0, 5, -5, 7, -7, 0, 0, 1, 2]):
            for places in all_places():
                self.assertIs(is_free(row, places), nought_classes(row, places) == 1)
                one, other = grouping_at(12, 12345), grouping_at(12, many_groupings(12) - 1)
                last = nought_last(row, places, one)
                self.assertIs(is_nought_last(row, places, last), True)
                chain = nought_chain(row, places, one, last)
                self.assertIs(is_nought_chain(row, places, one, last, chain), True)
                self.assertIs(nought_joined(row, places, one, other), last == nought_last(row, places, other))
        self.assertEqual(nought_classes([1] * 12, ["a"]), 58786)
        self.assertEqual(nought_classes([1, -1] * 6, ["a", "b", "c"]), 132)
        self.assertEqual(len(nought_lasts([1, 2] * 4 + [1], ["b"])), 1430)


class Chains(unittest.TestCase):
    def test_joined_and_chains(self):
        for row in asked()[::3]:
            for places in all_places():
                classes = try_poured(try_nought_let(row, places))
                tried = try_groupings(len(row))
                for one, other in list(product(tried, repeat=2))[::7]:
                    joined = any(one in found and other in found for found in classes)
                    self.assertIs(nought_joined(row, places, one, other), joined)
                    chain = nought_chain(row, places, one, other)
                    self.assertIs(chain is not None, joined)
                    self.assertIs(is_nought_chain(row, places, one, other, chain), joined)
                    if joined:
                        self.walk(row, places, one, other, chain)

    def walk(self, row, places, one, other, chain):
        for deed in chain:
            self.assertIn(deed, nought_deeds(row, places, one))
            one = try_done(one, deed)
        self.assertEqual(one, other)

    def test_deeds_that_lead_elsewhere_or_are_not_let(self):
        right = ("right", 0, 2, 3, 4)
        self.assertIs(is_nought_chain(value=[right], other=PAIRS, one=LEFT, places=["a"], row=ROW), True)
        self.assertIs(is_nought_chain(ROW, ["b"], LEFT, PAIRS, [right]), False)
        self.assertIs(is_nought_chain(ROW, ["a"], LEFT, LEFT, [right]), False)
        self.assertIs(is_nought_chain(ROW, ["a"], LEFT, LEFT, [right, ("left",) + right[1:]]), True)
        self.assertIs(is_nought_chain(ROW, ["a"], PAIRS, LEFT, [right]), False)
        self.assertIs(is_nought_chain(ROW, ["a"], LEFT, LEFT, []), True)
        self.assertIs(is_nought_chain(ROW, ["a"], LEFT, PAIRS, []), False)
        self.assertEqual(nought_chain(one=[], other=[], places=["c"], row=[4]), [])

    def test_any_object(self):
        check_judge(self, lambda value: is_nought_chain(ROW, ["a"], LEFT, PAIRS, value))
        check_judge(self, lambda value: is_nought_chain(ROW, ["a"], LEFT, LEFT, value), [[]])
        # None is no list of deeds where there is none, too.
        self.assertIsNone(nought_chain(ROW, ["a", "b", "c"], LEFT, NEST))
        self.assertIs(is_nought_chain(ROW, ["a", "b", "c"], LEFT, NEST, None), False)
        for wrong in WRONG_FORM:
            self.assertIs(is_nought_chain(ROW, ["a"], LEFT, PAIRS, [wrong]), False)

    def test_joining_places(self):
        for row in asked()[::4]:
            tried = try_groupings(len(row))
            classes = {tuple(places): try_poured(try_nought_let(row, places)) for places in all_places()}
            for one, other in list(product(tried, repeat=2))[::5]:
                joined = [list(places) for places, found in classes.items()
                          if any(one in some and other in some for some in found)]
                self.assertEqual(joining_places(row, one, other), sorted(joined))
        self.assertEqual(joining_places(other=[], one=[], row=[3]), sorted(all_places()))


class Neutral(unittest.TestCase):
    def asked(self):
        return all_monoids(1) + all_monoids(2) + all_monoids(3) + all_monoids(4)[::7] + [
            even(), ring_kinds(["x", "aa", "m", "b"]), ring_kinds(["b", "a"])]

    def test_settled_with_layers_for_all_kinds_and_places(self):
        for kinds in self.asked():
            for places in all_places():
                comb = neutral_comb(places=places, kinds=kinds)
                self.assertIs(is_settled(comb), True)
                self.assertIs(are_layers(comb.rule(), comb.arrows(), comb.layers()), True)
                self.assertEqual(comb.rule().kinds(), kinds)

    def test_rules_and_arrows(self):
        for kinds in self.asked():
            some, put = neutral(kinds), kinds.put
            for places in all_places():
                arrows = {}
                for a, b, c in product(kinds.kinds(), repeat=3):
                    noughts = [a == some, b == some, c == some, put(put(a, b), c) == some]
                    if any(is_nought and place in places for is_nought,
                           place in zip(noughts, ["a", "b", "c", "whole"])):
                        arrows[(a, b, c)] = try_word(places, noughts)
                comb = neutral_comb(kinds, places)
                self.assertEqual(comb.arrows(), arrows)
                self.assertEqual(comb.rule().triples(), sorted(arrows))

    def test_wrong_arguments(self):
        without = [first_kinds(["a", "b"]), Kinds({(a, b): "n" for a in "mn" for b in "mn"})]
        self.assertEqual([neutral(kinds) for kinds in without], [None, None])
        check_wrong(self, neutral_comb, lambda: [("kinds", even()), ("places", ["a"])],
                    [("kinds", InvalidKinds, WRONG_KINDS + without), ("places", InvalidPlaces, WRONG_PLACES)])
        for kinds in some_kinds():
            error = raised(lambda: neutral_comb(kinds, ["c"]))
            self.assertIs(type(error), type(None) if neutral(kinds) else InvalidKinds)


class Stretches(unittest.TestCase):
    def test_alike_in_noughts(self):
        for size in (1, 2, 3, 4):
            rows = number_rows(size) + [[-number for number in row] for row in number_rows(size)]
            for one, other in product(rows, repeat=2):
                told = [[sum(row[first:end]) == 0 for first in range(size) for end in range(first + 1, size + 1)]
                        for row in (one, other)]
                self.assertIs(alike_in_noughts(one, other), told[0] == told[1])
        self.assertIs(alike_in_noughts(other=[1, 2, 3], row=[1, 2]), False)
        self.assertIs(alike_in_noughts([0], [0, 0]), False)

    def test_all_lists_of_stretches(self):
        for size in (1, 2, 3, 4):
            found = [nought_stretches(row) for row in number_rows(size)]
            stretches = [(first, end) for first in range(size) for end in range(first + 1, size + 1)]
            for many in range(len(stretches) + 1):
                for some in combinations(stretches, many):
                    self.ask_list(size, list(some), list(some) in found)

    def ask_list(self, size, stretches, are):
        self.assertIs(are_noughts(size, stretches), are)
        error = raised(lambda: row_with(size, stretches))
        self.assertIs(type(error), type(None) if are else InvalidBlock)
        if are:
            row = row_with(size, stretches)
            self.assertEqual((len(row), nought_stretches(row)), (size, stretches))
            self.assertTrue(all(type(number) is int for number in row))
        else:
            self.assertIs(error.value, stretches)

    def test_longer_rows(self):
        chance = random.Random(97)
        for size in (5, 8, 12):
            for _ in range(30):
                row = [chance.choice((-1, 0, 1, 1, 5)) for _ in range(size)]
                found = nought_stretches(row)
                self.assertIs(are_noughts(value=found, size=size), True)
                made = row_with(stretches=found, size=size)
                self.assertEqual(nought_stretches(made), found)
                self.assertIs(alike_in_noughts(made, row), True)
                for left_out in found:
                    rest = [some for some in found if some != left_out]
                    self.assertIs(are_noughts(size, rest), self.is_shut(rest))
        self.assertEqual(len(try_heads(4)), 52)

    def is_shut(self, stretches):
        """By the last words of [92]."""
        for (f, m), (g, t) in product(stretches, repeat=2):
            if m == g and (f, t) not in stretches or f == g and m < t and (m, t) not in stretches:
                return False
            if m == t and f < g and (f, g) not in stretches:
                return False
        return True

    def test_any_object(self):
        for size in (1, 2, 5, 60, 10 ** 29):
            check_judge(self, lambda value: are_noughts(size, value), [[]])
        for wrong in WRONG_STRETCHES:
            self.assertIs(are_noughts(4, wrong), False)
        self.assertIs(are_noughts(4, [(0, 2), (0, 4), (2, 4)]), True)
        self.assertIs(are_noughts(3, [(0, 4)]), False)
        self.assertIs(are_noughts(60, [(3, 60)]), True)


class Wrong(unittest.TestCase):
    def test_wrong_arguments(self):
        row, wrong = [("row", list(ROW))], [("row", InvalidRow, WRONG_ROWS)]
        check_wrong(self, nought_stretches, lambda: list(row), wrong)
        check_wrong(self, alike_in_noughts, lambda: row + [("other", [1, 2])],
                    wrong + [("other", InvalidRow, WRONG_ROWS)])
        placed, wrong_placed = row + [("places", ["a", "b"])], wrong + [("places", InvalidPlaces, WRONG_PLACES)]
        for function in (nought_classes, nought_lasts, is_free):
            check_wrong(self, function, lambda: list(placed), wrong_placed)
        check_wrong(self, is_nought_last, lambda: placed + [("value", None)], wrong_placed)
        for function in (nought_deeds, combing_deeds, nought_last):
            check_wrong(self, function, lambda: placed + [("grouping", list(LEFT))],
                        wrong_placed + [("grouping", InvalidGrouping, OF_FOUR)])
        both = [("one", list(LEFT)), ("other", list(PAIRS))]
        wrong_both = [("one", InvalidGrouping, OF_FOUR), ("other", InvalidGrouping, OF_FOUR)]
        for function in (nought_joined, nought_chain):
            check_wrong(self, function, lambda: placed + both, wrong_placed + wrong_both)
        check_wrong(self, is_nought_chain, lambda: placed + both + [("value", None)], wrong_placed + wrong_both)
        check_wrong(self, joining_places, lambda: row + both, wrong + wrong_both)

    def test_wrong_sizes_and_stretches(self):
        sizes = wrong_for([1, 10 ** 40]) + [0, -5, "3", [3], (3,)]
        check_wrong(self, row_with, lambda: [("size", 4), ("stretches", [(0, 2)])],
                    [("size", InvalidCount, sizes), ("stretches", InvalidBlock, wrong_for([[]]) + WRONG_STRETCHES)])
        check_wrong(self, are_noughts, lambda: [("size", 4), ("value", None)], [("size", InvalidCount, sizes)])

    def test_what_was_passed_or_returned_may_change(self):
        row, places, one, two, stretches = list(ROW), ["a"], list(LEFT), list(PAIRS), [(0, 2)]
        before = shown([row, places, one, two, stretches])

        def told():
            return [nought_stretches(row), nought_deeds(row, places, one), combing_deeds(row, places, one),
                    nought_last(row, places, one), nought_last(row, places, two), nought_chain(row, places, one, two),
                    nought_lasts(row, places), nought_lasts(row, places)[0], joining_places(row, one, two),
                    joining_places(row, one, two)[0], row_with(3, stretches), nought_chain(row, places, two, two)]
        first = shown(told())
        for made in told():
            made.append(None)
        self.assertEqual(shown(told()), first)
        self.assertEqual(shown([row, places, one, two, stretches]), before)
        comb = neutral_comb(even(), places)
        comb.arrows().clear()
        places.append("b")
        self.assertEqual(comb, neutral_comb(even(), ["a"]))


if __name__ == "__main__":
    unittest.main()
