"""Section 6: joining ([31] to [36]), with [2] for it."""

import random
import unittest
from itertools import combinations, product

from kindshifts.errors import Apart, InvalidGrouping, InvalidRow, InvalidRule
from kindshifts.joining import (all_classes, are_joined, class_count, class_of, farthest, farthest_groupings,
                                fewest_deeds, idle_triples, is_parting_list, is_shortest_chain, is_shut_list,
                                joined_by_all, lone_groupings, many_shortest, needed_triples, parting_list,
                                shortest_chain, widest)
from kindshifts.rules import Rule, is_chain, rule_without
from tests.support import (check_judge, check_wrong, even, every_triple, raised, rows_of, rule_of, seven, shown,
                           some_kinds, try_classes, try_deeds, try_done, try_fewest, try_groupings, try_let,
                           try_triple, two_kinds)
from tests.test_groupings import BAD_GROUPINGS, LEFT, OF_FOUR, PAIRS
from tests.test_kinds import WRONG_ROWS
from tests.test_rules import WRONG_RULES

ROW = ["o", "o", "o", "o"]
ONE, TWO, THREE = [(0, 3), (0, 4), (1, 3)], [(0, 4), (1, 3), (1, 4)], [(0, 4), (1, 4), (2, 4)]
NONE = Rule(even(), [])
ALL = Rule(even(), every_triple(even()))


def asked_rows():
    """Rules and rows of one to six things."""
    chance = random.Random(11)
    found = [(rule_of(kinds, number), row) for kinds in two_kinds() for number in (0, 1, 85, 127, 198, 255)
             for row in rows_of(kinds, 4)[::5] + rows_of(kinds, 3)[::3]]
    for kinds in some_kinds():
        for size in (1, 2, 3, 4, 5, 5, 6):
            triples = [triple for triple in every_triple(kinds) if chance.random() < 0.6]
            found.append((Rule(kinds, triples), [chance.choice(kinds.kinds()) for _ in range(size)]))
    return found + [(rule, ["o"] * size) for rule in (NONE, ALL, seven()) for size in range(1, 7)]


class Classes(unittest.TestCase):
    def test_classes_are_those_found_by_trial(self):
        for rule, row in asked_rows():
            classes = try_classes(rule, row)
            self.assertEqual(all_classes(rule, row), classes)
            self.assertEqual(class_count(rule, row), len(classes))
            self.assertEqual(lone_groupings(rule, row), [some[0] for some in classes if len(some) == 1])
            self.assertIs(joined_by_all(rule, row), len(classes) == 1)
            for one, other in combinations(classes, 2):
                self.assertIs(are_joined(rule, row, one[0], other[-1]), False)
            for found in classes:
                self.assertEqual(class_of(rule, row, found[-1]), found)
                self.assertIs(are_joined(rule, row, found[0], found[-1]), True)

    def test_one_thing_and_two(self):
        for size, only in ((1, []), (2, [(0, 2)])):
            row = ["e"] * size
            for rule in (NONE, ALL):
                self.assertEqual(all_classes(rule, row), [[only]])
                self.assertEqual((class_count(rule, row), lone_groupings(rule, row)), (1, [only]))
                self.assertIs(joined_by_all(rule, row), True)
                self.assertEqual((class_of(rule, row, only), widest(rule, row)), ([only], 0))
                self.assertEqual((shortest_chain(rule, row, only, only), farthest(rule, row, only)), ([], 0))

    def test_rules_without_triples_and_with_all(self):
        for size in range(1, 7):
            row, tried = ["o", "e", "o", "o", "e", "e"][:size], try_groupings(size)
            self.assertEqual(all_classes(NONE, row), [[some] for some in tried])
            self.assertEqual(lone_groupings(NONE, row), tried)
            self.assertEqual(all_classes(ALL, row), [tried])
            self.assertIs(joined_by_all(ALL, row), True)
            self.assertIs(joined_by_all(NONE, row), size < 3)

    def test_wrong_arguments(self):
        row = [("rule", seven()), ("row", list(ROW))]
        wrong = [("rule", InvalidRule, WRONG_RULES), ("row", InvalidRow, WRONG_ROWS)]
        for function in (all_classes, class_count, lone_groupings, joined_by_all, widest, idle_triples):
            check_wrong(self, function, lambda: list(row), wrong)
        for function in (class_of, farthest, farthest_groupings):
            check_wrong(self, function, lambda: row + [("grouping", list(LEFT))],
                        wrong + [("grouping", InvalidGrouping, OF_FOUR)])
        both = [("one", InvalidGrouping, OF_FOUR), ("other", InvalidGrouping, OF_FOUR)]
        for function in (are_joined, fewest_deeds, shortest_chain, many_shortest, parting_list, needed_triples):
            check_wrong(self, function, lambda: row + [("one", list(LEFT)), ("other", list(PAIRS))], wrong + both)
        for function in (is_shortest_chain, is_parting_list):
            check_wrong(self, function, lambda: row + [("one", list(LEFT)), ("other", list(PAIRS)), ("value", [])],
                        wrong + both)
        check_wrong(self, is_shut_list, lambda: row + [("value", None)], wrong)


class Chains(unittest.TestCase):
    def test_fewest_deeds_and_how_many_chains(self):
        for rule, row in asked_rows()[::2]:
            graph, tried = try_let(rule, row), try_groupings(len(row))
            for one in tried[::4]:
                found = try_fewest(graph, tuple(one))
                farthest_one = max(many for many, _ in found.values())
                self.assertEqual(farthest(rule, row, one), farthest_one)
                self.assertEqual(farthest_groupings(rule, row, one),
                                 sorted(list(there) for there in found if found[there][0] == farthest_one))
                for other in tried[::3]:
                    self.ask_two(rule, row, one, other, found.get(tuple(other), (None, 0)))

    def ask_two(self, rule, row, one, other, told):
        fewest, walks = told
        self.assertEqual(fewest_deeds(rule, row, one, other), fewest)
        self.assertEqual(many_shortest(rule, row, one, other), walks)
        chain = shortest_chain(rule, row, one, other)
        self.assertIs(is_shortest_chain(rule, row, one, other, None), False)
        if fewest is None:
            self.assertIsNone(chain)
            return
        self.assertEqual(len(chain), fewest)
        self.assertIs(is_chain(rule, row, one, other, chain), True)
        self.assertIs(is_shortest_chain(rule, row, one, other, chain), True)

    def test_widest(self):
        for rule, row in asked_rows():
            if len(row) < 6:
                graph = try_let(rule, row)
                self.assertEqual(widest(rule, row), max(many for here in graph
                                                        for many, _ in try_fewest(graph, here).values()))
        self.assertEqual((widest(NONE, ROW), widest(ALL, ["o"] * 6), widest(seven(), ROW)), (0, 5, 2))

    def test_is_shortest_chain_of_longer_chains_and_any_object(self):
        back = [("right", 0, 2, 3, 4), ("left", 0, 2, 3, 4)]
        self.assertIs(is_chain(seven(), ROW, LEFT, LEFT, back), True)
        self.assertIs(is_shortest_chain(seven(), ROW, LEFT, LEFT, back), False)
        self.assertIs(is_shortest_chain(seven(), ROW, LEFT, PAIRS, back[:1]), True)
        self.assertIs(is_shortest_chain(seven(), ROW, LEFT, PAIRS, tuple(back[:1])), False)
        self.assertIs(is_shortest_chain(seven(), ROW, LEFT, PAIRS, [list(back[0])]), False)
        self.assertIs(is_shortest_chain(seven(), ROW, LEFT, ONE, []), False)
        check_judge(self, lambda value: is_shortest_chain(seven(), ROW, LEFT, LEFT, value), [[]])
        check_judge(self, lambda value: is_shortest_chain(seven(), ROW, LEFT, THREE, value))
        check_judge(self, lambda value: is_shortest_chain(seven(), ROW, LEFT, ONE, value))

    def test_all_chains_that_are_told_to_be_shortest(self):
        row, start = ["o", "e", "e", "e"], LEFT
        for other in try_groupings(4):
            walks = [([], start)]
            for _ in range(3):
                walks += [(chain + [deed], try_done(there, deed))
                          for chain, there in walks for deed in try_deeds(there)]
            good = [chain for chain, there in walks if is_shortest_chain(ALL, row, start, other, chain)]
            found = {tuple(chain) for chain in good}
            self.assertEqual(len(found), many_shortest(ALL, row, start, other))
            self.assertEqual({len(chain) for chain in good}, {fewest_deeds(ALL, row, start, other)})


class Lists(unittest.TestCase):
    def test_shut_lists_of_all_lists(self):
        for rule in (seven(), NONE, ALL, rule_of(even(), 21)):
            for row in (ROW, ["e", "o", "e", "o"]):
                tried, classes = try_groupings(4), try_classes(rule, row)
                for some in product([0, 1], repeat=len(tried)):
                    held = [grouping for grouping, has in zip(tried, some) if has]
                    shut = all(all(grouping in held for grouping in found) or not any(
                        grouping in held for grouping in found) for found in classes)
                    self.assertIs(is_shut_list(rule, row, held), shut)
                    if shut:
                        self.assertIs(is_parting_list(rule, row, LEFT, ONE, held), LEFT in held and ONE not in held)

    def test_parting_lists(self):
        for rule, row in asked_rows():
            for one, other in product(try_groupings(len(row))[::5], repeat=2):
                found = parting_list(rule, row, one, other)
                self.assertIs(found is None, are_joined(rule, row, one, other))
                self.assertIs(is_parting_list(rule, row, one, other, found), found is not None)
                if found is not None:
                    self.assertIs(is_shut_list(rule, row, found), True)
        self.assertIs(is_parting_list(seven(), ROW, ONE, LEFT, [ONE, TWO]), True)
        self.assertIs(is_parting_list(seven(), ROW, LEFT, ONE, [ONE, TWO]), False)
        self.assertIs(is_parting_list(seven(), ROW, ONE, LEFT, []), False)
        self.assertIs(is_parting_list(seven(), ROW, ONE, LEFT, try_groupings(4)), False)
        self.assertIsNone(parting_list(seven(), ROW, LEFT, LEFT))

    def test_any_object(self):
        check_judge(self, lambda value: is_shut_list(seven(), ROW, value), [[]])
        check_judge(self, lambda value: is_shut_list(NONE, ["e"], value), [[], [[]]])
        check_judge(self, lambda value: is_parting_list(seven(), ROW, ONE, LEFT, value))
        for value in [[TWO, ONE], [ONE, TWO, TWO], (ONE, TWO), [tuple(ONE), tuple(TWO)], [ONE, TWO, None], [[ONE, TWO]],
                      {0: ONE, 1: TWO}, [ONE, TWO, [(0, 2)]], [ONE, TWO, even()]]:
            self.assertIs(is_shut_list(seven(), ROW, value), False)
            self.assertIs(is_parting_list(seven(), ROW, ONE, LEFT, value), False)
        for wrong in BAD_GROUPINGS:
            self.assertIs(is_shut_list(NONE, ROW, [wrong]), False)


class Triples(unittest.TestCase):
    def test_needed_triples(self):
        for rule, row in asked_rows()[::2]:
            if len(row) > 5:
                continue
            classes = try_classes(rule, row)
            lesser = [try_classes(rule_without(rule, [triple]), row) for triple in rule.triples()]
            for one, other in product(try_groupings(len(row))[::3], repeat=2):
                if [found for found in classes if one in found and other in found]:
                    parted = [triple for triple, parts in zip(rule.triples(), lesser)
                              if not [found for found in parts if one in found and other in found]]
                    self.assertEqual(needed_triples(rule, row, one, other), parted)
                else:
                    error = raised(lambda: needed_triples(rule, row, one, other))
                    self.assertIs(type(error), Apart)
                    self.assertIs(error.value, other)

    def test_apart_comes_last(self):
        for wrong in OF_FOUR:
            for passed in ((seven(), ROW, wrong, ONE), (seven(), ROW, LEFT, wrong)):
                self.assertIs(type(raised(lambda: needed_triples(*passed))), InvalidGrouping)
        other = list(ONE)
        error = raised(lambda: needed_triples(other=other, one=LEFT, row=ROW, rule=seven()))
        self.assertIs(type(error), Apart)
        self.assertIs(error.value, other)
        self.assertEqual(other, ONE)
        self.assertEqual(needed_triples(NONE, ROW, LEFT, LEFT), [])

    def test_idle_triples(self):
        for rule, row in asked_rows():
            busy = {try_triple(rule.kinds(), row, deed) for grouping in try_groupings(len(row))
                    for deed in try_deeds(grouping)}
            self.assertEqual(idle_triples(rule, row), [triple for triple in rule.triples() if triple not in busy])
        self.assertEqual(idle_triples(ALL, ["e", "o"]), every_triple(even()))


class Changes(unittest.TestCase):
    def test_what_was_passed_or_returned_may_change(self):
        rule, row, one, other = seven(), list(ROW), list(LEFT), list(THREE)
        before = shown([rule, row, one, other])

        def told():
            return [class_of(rule, row, one), all_classes(rule, row), lone_groupings(NONE, row),
                    shortest_chain(rule, row, one, other), parting_list(rule, row, ONE, one),
                    farthest_groupings(rule, row, one), needed_triples(rule, row, one, other), idle_triples(rule, row),
                    shortest_chain(rule, row, one, one), class_of(NONE, row, one), parting_list(NONE, row, one, other)]
        first = shown(told())
        for made in told():
            for inner in made:
                if isinstance(inner, list):
                    inner.append(None)
            made.append(None)
        self.assertEqual(shown(told()), first)
        self.assertEqual(shown([rule, row, one, other]), before)


if __name__ == "__main__":
    unittest.main()
