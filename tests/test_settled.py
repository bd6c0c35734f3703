"""Section 9: settled combs ([47] to [52]), with [2] for them."""

import unittest
from itertools import product

from kindshifts.combing import is_last, left_comb, right_comb
from kindshifts.errors import InvalidComb, InvalidCount, InvalidFour, InvalidRule
from kindshifts.kinds import first_kinds
from kindshifts.rules import Rule, is_chain
from kindshifts.settled import (five_lasts, five_shifts, is_settled, is_unsettled_four, is_unsettled_row,
                                meeting_corner, parting_fours, settled_words, unsettled_four, unsettled_fours,
                                unsettled_row)
from tests.support import (check_judge, check_wrong, even, every_triple, lesser, mixed, mixed_combs, raised, rows_of,
                           rule_of, seven, shown, some_combs, try_along, try_deeds, try_done, try_let, try_settled,
                           two_kinds, unsettled, wrong_for)
from tests.test_combing import WRONG_COMBS, try_combings
from tests.test_kinds import WRONG_ROWS
from tests.test_rules import CORNERS, NONE, WRONG_RULES

ROW = ["o", "o", "o", "o"]
ALL = Rule(even(), every_triple(even()))
WRONG_FOURS = WRONG_ROWS + [["e"] * 3, ["e"] * 5, ("e", "o", "o", "e"), ["e", "o", "o", "x"], ["e", "o", "o", None],
                            "eooe", ["e", "o", "o", ["e"]], ["e", "o", "o", even()], {"e": 0, "o": 1}]
WRONG_CORNERS = wrong_for([0, 1]) + [5, -5, "3", [3], (3,), 10 ** 20]


def combs():
    """Combs of two kinds, one way and both ways, settled or not, and some of other kinds."""
    found = [made(rule_of(kinds, number)) for kinds in (even(), lesser()) for number in range(3, 256, 11)
             for made in (right_comb, left_comb)]
    return found + some_combs() + mixed_combs(40)


def try_lasts(comb, four):
    """For each corner the ascending list of the last corners to which combings lead."""
    graph = try_along(comb, four)
    return [sorted({CORNERS.index(list(last)) for _, last in try_combings(graph, tuple(corner))})
            for corner in CORNERS]


def try_openings(comb):
    """The fours, ascending, with their corners from which combings lead to two last ones."""
    return [(four, corner) for four in rows_of(comb.rule().kinds(), 4)
            for corner, lasts in enumerate(try_lasts(comb, four)) if len(lasts) > 1]


class Settled(unittest.TestCase):
    def test_settled_as_tried_with_all_rows_of_four_and_five_things(self):
        told = {True: 0, False: 0}
        for comb in combs():
            if len(comb.rule().kinds().kinds()) > 2:
                continue
            good = all(try_settled(comb, row) for size in (4, 5) for row in rows_of(comb.rule().kinds(), size))
            told[good] += 1
            self.assertIs(is_settled(comb), good)
        self.assertGreater(min(told.values()), 20)

    def test_three_kinds_and_more(self):
        found = [comb for comb in combs() if len(comb.rule().kinds().kinds()) == 3]
        for comb in found:
            good = all(try_settled(comb, row) for row in rows_of(comb.rule().kinds(), 4))
            self.assertIs(is_settled(comb), good)
        wide = Rule(first_kinds(["a", "b", "c", "d"]), every_triple(first_kinds(["a", "b", "c", "d"])))
        self.assertIs(is_settled(right_comb(wide)), True)
        self.assertIs(is_settled(comb=right_comb(Rule(wide.kinds(), wide.triples()[1:]))), False)

    def test_rules_without_triples_and_with_all(self):
        for kinds in two_kinds():
            for rule in (Rule(kinds, []), Rule(kinds, every_triple(kinds))):
                self.assertEqual(settled_words(rule), ["left", "right"])
                self.assertIs(is_settled(right_comb(rule)), True)
                self.assertIs(is_settled(left_comb(rule)), True)

    def test_settled_words(self):
        for kinds in two_kinds():
            for number in range(0, 256, 7):
                rule = rule_of(kinds, number)
                good = [word for word, made in (("left", left_comb), ("right", right_comb))
                        if not try_openings(made(rule))]
                self.assertEqual(settled_words(rule), good)
        self.assertEqual(settled_words(rule=seven()), [])

    def test_wrong_arguments(self):
        for function in (is_settled, unsettled_four, unsettled_fours, unsettled_row, parting_fours):
            check_wrong(self, function, lambda: [("comb", mixed())], [("comb", InvalidComb, WRONG_COMBS)])
        for function in (is_unsettled_four, is_unsettled_row):
            check_wrong(self, function, lambda: [("comb", mixed()), ("value", None)],
                        [("comb", InvalidComb, WRONG_COMBS)])
        check_wrong(self, settled_words, lambda: [("rule", seven())], [("rule", InvalidRule, WRONG_RULES)])
        check_wrong(self, five_shifts, lambda: [("rule", seven()), ("four", list(ROW))],
                    [("rule", InvalidRule, WRONG_RULES), ("four", InvalidFour, WRONG_FOURS)])
        both = [("comb", InvalidComb, WRONG_COMBS), ("four", InvalidFour, WRONG_FOURS)]
        check_wrong(self, five_lasts, lambda: [("comb", mixed()), ("four", list(ROW))], both)
        check_wrong(self, meeting_corner, lambda: [("comb", mixed()), ("four", list(ROW)), ("corner", 1)],
                    both + [("corner", InvalidCount, WRONG_CORNERS)])


class Fours(unittest.TestCase):
    def test_five_shifts(self):
        for kinds in two_kinds():
            for number in range(0, 256, 9):
                rule = rule_of(kinds, number)
                for four in rows_of(kinds, 4)[::3]:
                    graph = try_let(rule, four)
                    found = [(one, CORNERS.index(list(there))) for one, corner in enumerate(CORNERS)
                             for deed, there in graph[tuple(corner)] if deed[0] == "right"]
                    self.assertEqual(five_shifts(rule, four), sorted(found))
        self.assertEqual(five_shifts(four=ROW, rule=ALL), [(0, 1), (0, 4), (1, 2), (2, 3), (4, 3)])
        self.assertEqual(five_shifts(NONE, ROW), [])

    def test_five_lasts(self):
        for comb in combs():
            for four in rows_of(comb.rule().kinds(), 4)[::5]:
                self.assertEqual(five_lasts(comb, four), try_lasts(comb, four))
        self.assertEqual(five_lasts(four=ROW, comb=right_comb(NONE)), [[0], [1], [2], [3], [4]])

    def test_unsettled_fours(self):
        for comb in combs():
            found = try_openings(comb)
            fours = [four for four in rows_of(comb.rule().kinds(), 4) if four in [one for one, _ in found]]
            self.assertEqual(unsettled_fours(comb), fours)
            self.assertIs(is_settled(comb), not found)
            told = unsettled_four(comb)
            self.assertTrue(told in found if found else told is None)
            self.assertIs(is_unsettled_four(comb, told), bool(found))

    def test_is_unsettled_four_of_all(self):
        for comb in (unsettled(), mixed(), left_comb(seven()), mixed_combs(40)[3]):
            found = try_openings(comb)
            for four in rows_of(comb.rule().kinds(), 4):
                for corner in range(-1, 7):
                    self.assertIs(is_unsettled_four(comb, (four, corner)), (four, corner) in found)
        self.assertIs(is_unsettled_four(value=(ROW, 0), comb=unsettled()), True)

    def test_any_object(self):
        comb = unsettled()
        check_judge(self, lambda value: is_unsettled_four(comb, value))
        check_judge(self, lambda value: is_unsettled_four(right_comb(NONE), value))
        for wrong in WRONG_FOURS:
            self.assertIs(is_unsettled_four(comb, (wrong, 0)), False)
        for wrong in wrong_for([0]):
            self.assertIs(is_unsettled_four(comb, (ROW, wrong)), False)
        for value in [[ROW, 0], (ROW, 0, 0), (ROW,), (0, ROW), {0: ROW}, (tuple(ROW), 0), (ROW, False), (ROW, "0")]:
            self.assertIs(is_unsettled_four(comb, value), False)

    def test_parting_fours_and_meeting_corners(self):
        for comb in combs():
            parting = []
            for four in rows_of(comb.rule().kinds(), 4):
                graph = try_along(comb, four)
                corners = [corner for corner in range(5) if len(graph[tuple(CORNERS[corner])]) == 2]
                if corners:
                    parting.append(four)
                for corner in range(5):
                    self.assertEqual(meeting_corner(comb, four, corner), self.try_meeting(graph, corner, corners))
            self.assertEqual(parting_fours(comb), parting)
        self.assertEqual(meeting_corner(corner=0, four=ROW, comb=right_comb(ALL)), 3)
        self.assertEqual(parting_fours(right_comb(NONE)), [])

    def try_meeting(self, graph, corner, corners):
        if corner not in corners:
            return None
        ends = [{last for _, last in try_combings(graph, there)} for _, there in graph[tuple(CORNERS[corner])]]
        shared = [CORNERS.index(list(last)) for last in ends[0] & ends[1]]
        self.assertLess(len(shared), 2)
        return shared[0] if shared else None


class Rows(unittest.TestCase):
    def test_unsettled_rows(self):
        for comb in combs():
            told = unsettled_row(comb)
            self.assertIs(told is None, is_settled(comb))
            self.assertIs(is_unsettled_row(comb, told), told is not None)
            if told is not None:
                row, one, other, chain = told
                self.assertEqual(len(row), 4)
                self.assertNotEqual(one, other)
                self.assertTrue(is_last(comb, row, one) and is_last(comb, row, other))
                self.assertIs(is_chain(comb.rule(), row, one, other, chain), True)

    def test_longer_rows(self):
        comb = unsettled()
        row, one, other, chain = unsettled_row(comb)
        longer = (row + ["e"], sorted(one + [(0, 5)]), sorted(other + [(0, 5)]), chain)
        lasting = is_last(comb, longer[0], longer[1]) and is_last(comb, longer[0], longer[2])
        self.assertIs(is_unsettled_row(comb, longer), lasting)
        self.assertIs(is_unsettled_row(comb, (row, other, one, chain)), False)
        # Around, and back, and there again is a chain as good.
        around = chain + [(("left" if deed[0] == "right" else "right"),) + deed[1:] for deed in reversed(chain)] + chain
        self.assertIs(is_unsettled_row(value=(row, one, other, around), comb=comb), True)

    def test_all_rows_of_five_things_that_are_unsettled(self):
        comb, found = unsettled(), 0
        for row in rows_of(even(), 5):
            graph = try_along(comb, row)
            lasts = [list(here) for here in graph if not graph[here]]
            for one, other in product(lasts, repeat=2):
                chain = self.try_chain(comb, row, one, other)
                if chain is not None:
                    found += one != other
                    self.assertIs(is_unsettled_row(comb, (row, one, other, chain)), one != other)
        self.assertGreater(found, 5)

    def try_chain(self, comb, row, one, other):
        """A chain of let deeds from the one to the other, None if there is none."""
        graph, chains = try_let(comb.rule(), row), {tuple(one): []}
        edge = [tuple(one)]
        for here in edge:
            for deed, there in graph[here]:
                if there not in chains:
                    chains[there] = chains[here] + [deed]
                    edge.append(there)
        return chains.get(tuple(other))

    def test_any_object(self):
        comb = unsettled()
        row, one, other, chain = unsettled_row(comb)
        check_judge(self, lambda value: is_unsettled_row(comb, value))
        check_judge(self, lambda value: is_unsettled_row(right_comb(NONE), value))
        for wrong in wrong_for():
            for value in ((wrong, one, other, chain), (row, wrong, other, chain), (row, one, wrong, chain),
                          (row, one, other, wrong), (row, one, other, chain + [wrong])):
                self.assertIs(is_unsettled_row(comb, value), False)
        for value in [[row, one, other, chain], (row, one, other), (row, one, other, chain, None), (row, one, one, []),
                      (row, one, other, []), (row, one, other, tuple(chain)), (tuple(row), one, other, chain),
                      (row, tuple(one), other, chain), (row[:3], one, other, chain)]:
            self.assertIs(is_unsettled_row(comb, value), False)
        # A chain from a grouping that is not last, or to one, parts no last ones.
        for corner, deed in [(some, deed) for some in CORNERS for deed in try_deeds(some)]:
            there = try_done(corner, deed)
            told = is_unsettled_row(comb, (row, corner, there, [deed]))
            self.assertIs(told, False)

    def test_what_was_passed_or_returned_may_change(self):
        comb, four = unsettled(), list(ROW)
        before = shown([comb, four])

        def told():
            return [settled_words(ALL), five_shifts(ALL, four), five_lasts(comb, four), list(unsettled_four(comb)),
                    unsettled_fours(comb), list(unsettled_row(comb)), parting_fours(comb)]
        first = shown(told())
        for made in told():
            for inner in made:
                if isinstance(inner, list):
                    inner.append(None)
            made.append(None)
        self.assertEqual(shown(told()), first)
        self.assertEqual(shown([comb, four]), before)
        self.assertIsNone(raised(lambda: is_settled(comb)))


if __name__ == "__main__":
    unittest.main()
