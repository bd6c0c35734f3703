"""Section 5: rules and deeds ([24] to [30]), with [2] for them."""

import unittest
from itertools import combinations, product

from kindshifts.errors import (InvalidChain, InvalidDeed, InvalidFour, InvalidGrouping, InvalidKinds, InvalidRow,
                               InvalidRule, InvalidTriples)
from kindshifts.kinds import Kinds, first_kinds, greatest_kinds, last_kinds, opposite
from kindshifts.rules import (Rule, all_triples, barring_deed, chain_back, chain_end, contrary, deed_triple, done,
                              fitting_deeds, five_edges, five_parts, is_chain, let_deeds, mirrored_rule, rule_by_places,
                              rule_with, rule_without, triples_used)
from tests.support import (EVEN_TABLE, check_judge, check_wrong, even, every_triple, pool, raised, rows_of, seven,
                           shown, some_kinds, try_deeds, try_done, try_groupings, try_triple, wrong_for)
from tests.test_groupings import BAD_GROUPINGS, LEFT, NEST, OF_FOUR, PAIRS
from tests.test_kinds import WRONG_KINDS, WRONG_ROWS

EIGHT = Rule(even(), every_triple(even()))
NONE = Rule(even(), [])
ROW = ["o", "o", "o", "o"]
RIGHT = [(0, 4), (1, 4), (2, 4)]
CORNERS = [LEFT, [(0, 3), (0, 4), (1, 3)], NEST, RIGHT, PAIRS]
WRONG_RULES = [value for value in wrong_for() if not isinstance(value, Rule)] + [even(), (even(), []), {}]
WRONG_FORM = wrong_for() + [("right", 0, 1, 2), ("right", 0, 1, 2, 3, 4), ("right", 0, 2, 1, 3), ("right", 0, 1, 2, 2),
                            ("right", 1, 1, 2, 3), ("left", 2, 1, 3, 4), ("right", True, 2, 3, 4),
                            ("right", 0, True, 2, 3), ("right", False, 1, 2, 3), ("right", -1, 1, 2, 3),
                            ("Right", 0, 1, 2, 3), ("", 0, 1, 2, 3), (["right"], 0, 1, 2, 3), (even(), 0, 1, 2, 3),
                            ("left", 0, 1, 2, None), ("left", 0, 1, 2, "3"), ("left", 0, 1, (2,), 3),
                            (0, 1, 2, 3, "left"), {"left": 0}, [("left", 0, 1, 2, 3)], ("left", (0, 1, 2, 3))]
WRONG_TRIPLES = wrong_for([[]]) + [(), (("e", "e", "o"),), [("e", "o")], [["e", "e", "o"]], [("e", "e", "x")],
                                   [("e", "e", "o"), ("e", "e", "e")], [("e", "e", "e"), ("e", "e", "e")],
                                   [("e", "e", "e", "e")], [("e", "e", None)], ["eeo"], [("e", "e", ["o"])],
                                   {("e", "e", "o"): 1}, [("e", "e", "e"), None], [("e", "e", even())]]


def grouped_rows(kinds, size):
    return [(row, grouping) for row in rows_of(kinds, size) for grouping in try_groupings(size)]


def some_rules():
    """All rules of two kinds with few or many triples, and some of the other kinds."""
    triples = every_triple(even())
    rules = [Rule(even(), [triple for place, triple in enumerate(triples) if number >> place & 1])
             for number in range(0, 256, 5)]
    for kinds in some_kinds():
        rules.append(Rule(kinds, every_triple(kinds)[::2]))
    return rules


def walks(grouping, length):
    """All lists of so many deeds, each of which fits, with the groupings that they lead to."""
    if length == 0:
        return [([], grouping)]
    return [(chain + [deed], try_done(there, deed)) for chain, there in walks(grouping, length - 1)
            for deed in try_deeds(there)]


class Rules(unittest.TestCase):
    def test_kinds_and_triples(self):
        for rule in some_rules():
            again = Rule(triples=rule.triples(), kinds=rule.kinds())
            self.assertEqual(again, rule)
            self.assertIsInstance(again.kinds(), Kinds)
        self.assertEqual((NONE.triples(), NONE.kinds()), ([], even()))
        self.assertEqual(EIGHT.triples(), every_triple(even()))

    def test_equal_exactly_if_kinds_and_triples_are(self):
        rules = some_rules() + [Rule(first_kinds(["e", "o"]), []), Rule(last_kinds(["e", "o"]), [("e", "e", "e")])]
        for one in rules:
            for other in rules:
                same = one.kinds() == other.kinds() and one.triples() == other.triples()
                self.assertIs(one == other, same)
                self.assertIs(one != other, not same)
        for other in pool() + [even(), (even(), []), []]:
            self.assertIs(NONE == other, False)
            self.assertIs(other == NONE, False)
        self.assertIs(Rule(even(), [("e", "o", "o")]) == Rule(even(), [("e", "o", "o")]), True)

    def test_wrong_kinds_and_triples(self):
        check_wrong(self, Rule, lambda: [("kinds", even()), ("triples", [("e", "e", "o")])],
                    [("kinds", InvalidKinds, WRONG_KINDS), ("triples", InvalidTriples, WRONG_TRIPLES)])

    def test_what_was_passed_or_returned_may_change(self):
        table, triples = dict(EVEN_TABLE), [("e", "o", "o")]
        rule = Rule(Kinds(table), triples)
        table.clear()
        triples.append(("o", "o", "o"))
        rule.triples().clear()
        rule.kinds().table().clear()
        self.assertEqual(rule, Rule(even(), [("e", "o", "o")]))
        self.assertEqual(rule.triples(), [("e", "o", "o")])
        all_triples(even()).clear()
        self.assertEqual(len(all_triples(even())), 8)

    def test_all_triples(self):
        for kinds in some_kinds():
            self.assertEqual(all_triples(kinds=kinds), every_triple(kinds))
        check_wrong(self, all_triples, lambda: [("kinds", even())], [("kinds", InvalidKinds, WRONG_KINDS)])

    def test_rule_by_places(self):
        kinds = greatest_kinds(["c", "a", "b"])
        lists = [list(some) for many in range(4) for some in combinations("abc", many)]
        for firsts, seconds, thirds in product(lists, repeat=3):
            found = [(a, b, c) for a, b, c in every_triple(kinds) if a in firsts and b in seconds and c in thirds]
            self.assertEqual(rule_by_places(kinds, firsts, seconds, thirds), Rule(kinds, found))
        self.assertEqual(rule_by_places(thirds=["e"], seconds=["o"], firsts=["e", "o"], kinds=even()),
                         Rule(even(), [("e", "o", "e"), ("o", "o", "e")]))
        wrong = wrong_for([[]]) + [["o", "e"], ["e", "e"], ["x"], ("e", "o"), "eo", {"e": "o"}, ["e", 1], [("e",)]]
        check_wrong(self, rule_by_places,
                    lambda: [("kinds", even()), ("firsts", ["e"]), ("seconds", []), ("thirds", ["e", "o"])],
                    [("kinds", InvalidKinds, WRONG_KINDS), ("firsts", InvalidTriples, wrong),
                     ("seconds", InvalidTriples, wrong), ("thirds", InvalidTriples, wrong)])

    def test_rule_with_and_without(self):
        for rule in some_rules():
            every = every_triple(rule.kinds())
            for triples in [[], every, every[1::3], every[:2]]:
                before = list(triples)
                self.assertEqual(rule_with(rule, triples).triples(), sorted(set(rule.triples()) | set(triples)))
                self.assertEqual(rule_without(rule, triples).triples(), sorted(set(rule.triples()) - set(triples)))
                self.assertEqual(rule_with(triples=triples, rule=rule).kinds(), rule.kinds())
                self.assertEqual(rule_without(triples=triples, rule=rule).kinds(), rule.kinds())
                self.assertEqual(triples, before)
        for function in (rule_with, rule_without):
            check_wrong(self, function, lambda: [("rule", seven()), ("triples", [("e", "e", "o")])],
                        [("rule", InvalidRule, WRONG_RULES), ("triples", InvalidTriples, WRONG_TRIPLES)])

    def test_mirrored_rule(self):
        for rule in some_rules():
            made = mirrored_rule(rule)
            self.assertEqual(made, Rule(opposite(rule.kinds()), sorted((c, b, a) for a, b, c in rule.triples())))
            self.assertEqual(mirrored_rule(rule=made), rule)
        check_wrong(self, mirrored_rule, lambda: [("rule", seven())], [("rule", InvalidRule, WRONG_RULES)])

    def test_mirrored_chains(self):
        rule, size = Rule(first_kinds(["a", "b"]), [("a", "a", "b"), ("a", "b", "b"), ("b", "a", "a")]), 4
        for row, grouping in grouped_rows(rule.kinds(), size):
            mirror = sorted((size - end, size - first) for first, end in grouping)
            found = [("left" if word == "right" else "right", size - end, size - third, size - second, size - first)
                     for word, first, second, third, end in let_deeds(rule, row, grouping)]
            self.assertEqual(let_deeds(mirrored_rule(rule), row[::-1], mirror), sorted(found))


class Deeds(unittest.TestCase):
    def test_fitting_deeds_are_those_found_by_trial(self):
        for size in range(1, 7):
            row = ["e"] * size
            for grouping in try_groupings(size):
                found = fitting_deeds(EIGHT, row, grouping)
                self.assertEqual(found, try_deeds(grouping))
                self.assertEqual(len(found), max(0, size - 2))

    def test_let_deeds_triples_and_done(self):
        for rule in some_rules():
            names = rule.kinds().kinds()
            rows = rows_of(rule.kinds(), 4)[::3] + [names[:1], names[:1] * 2, names[-1:] + names[:1] * 4]
            for row, grouping in [(row, grouping) for row in rows for grouping in try_groupings(len(row))]:
                fitting = try_deeds(grouping)
                let = [deed for deed in fitting if try_triple(rule.kinds(), row, deed) in rule.triples()]
                self.assertEqual(let_deeds(rule, row, grouping), let)
                for deed in fitting:
                    self.assertEqual(deed_triple(rule, row, deed), try_triple(rule.kinds(), row, deed))
                    if deed in let:
                        self.assertEqual(done(rule, row, grouping, deed), try_done(grouping, deed))
                    else:
                        error = raised(lambda: done(rule, row, grouping, deed))
                        self.assertIs(type(error), InvalidDeed)
                        self.assertIs(error.value, deed)

    def test_deeds_of_all_forms_fit_or_do_not(self):
        for grouping in try_groupings(5):
            fitting = try_deeds(grouping)
            for word, places in product(["right", "left"], combinations(range(7), 4)):
                deed = (word,) + places
                if deed not in fitting:
                    self.assertIs(type(raised(lambda: done(EIGHT, ["e"] * 5, grouping, deed))), InvalidDeed)

    def test_deed_triple_of_deeds_that_fit_nothing_told(self):
        kinds = first_kinds(["a", "b", "c"])
        rule, row = Rule(kinds, []), ["a", "b", "c", "b", "a"]
        for word, places in product(["right", "left"], combinations(range(6), 4)):
            deed = (word,) + places
            self.assertEqual(deed_triple(rule, row, deed), try_triple(kinds, row, deed))
        self.assertEqual(deed_triple(deed=("left", 0, 1, 2, 5), row=row, rule=rule), ("a", "b", "c"))

    def test_a_deed_and_its_contrary_lead_there_and_back(self):
        for grouping in try_groupings(5):
            for deed in try_deeds(grouping):
                there = done(EIGHT, ["o"] * 5, grouping, deed)
                self.assertEqual(len(set(there) - set(grouping)), 1)
                self.assertEqual(done(EIGHT, ["o"] * 5, there, contrary(deed)), grouping)
                self.assertEqual(contrary(contrary(deed)), deed)
        self.assertEqual(contrary(deed=("right", 3, 5, 60, 90)), ("left", 3, 5, 60, 90))

    def test_wrong_arguments(self):
        row_and_grouping = [("rule", InvalidRule, WRONG_RULES), ("row", InvalidRow, WRONG_ROWS),
                            ("grouping", InvalidGrouping, OF_FOUR)]
        good = [("rule", seven()), ("row", list(ROW)), ("grouping", list(LEFT))]
        for function in (fitting_deeds, let_deeds):
            check_wrong(self, function, lambda: list(good), row_and_grouping)
        # That which is not let comes last: its triple is (o, o, o).
        unfit = WRONG_FORM + [("right", 0, 1, 3, 4), ("left", 0, 2, 3, 4), ("right", 0, 2, 3, 5), ("left", 0, 1, 2, 3),
                              ("right", 10, 20, 30, 40), ("right", 0, 1, 2, 3)]
        check_wrong(self, done, lambda: good + [("deed", ("right", 0, 2, 3, 4))],
                    row_and_grouping + [("deed", InvalidDeed, unfit)])
        beyond = WRONG_FORM + [("right", 0, 1, 2, 5), ("left", 4, 5, 6, 7), ("left", 0, 1, 2, 10 ** 30)]
        check_wrong(self, deed_triple, lambda: good[:2] + [("deed", ("right", 0, 1, 2, 4))],
                    row_and_grouping[:2] + [("deed", InvalidDeed, beyond)])
        check_wrong(self, contrary, lambda: [("deed", ("left", 0, 1, 2, 3))], [("deed", InvalidDeed, WRONG_FORM)])

    def test_a_row_of_other_kinds(self):
        for function in (fitting_deeds, let_deeds):
            self.assertIs(type(raised(lambda: function(seven(), ["a"] * 4, LEFT))), InvalidRow)
            self.assertIs(type(raised(lambda: function(seven(), ["e"] * 3, LEFT))), InvalidGrouping)


class Chains(unittest.TestCase):
    def test_all_walks(self):
        for rule in [seven(), EIGHT, NONE, Rule(even(), every_triple(even())[1::2])]:
            for row in rows_of(even(), 4):
                for start in try_groupings(4):
                    for length in (0, 1, 2, 3):
                        self.ask_walks(rule, row, start, length)

    def ask_walks(self, rule, row, start, length):
        for chain, there in walks(start, length):
            used = [try_triple(rule.kinds(), row, deed) for deed in chain]
            barred = [place for place, triple in enumerate(used) if triple not in rule.triples()]
            self.assertEqual(triples_used(rule.kinds(), row, start, chain), sorted(set(used)))
            self.assertEqual(barring_deed(rule, row, start, chain), barred[0] if barred else None)
            self.assertIs(is_chain(rule, row, start, there, chain), not barred)
            if barred:
                self.assertIs(type(raised(lambda: chain_end(rule, row, start, chain))), InvalidChain)
            else:
                self.assertEqual(chain_end(rule, row, start, chain), there)
                self.assertIs(is_chain(rule, row, there, start, chain_back(chain)), True)
                self.assertIs(is_chain(rule, row, start, LEFT if there != LEFT else NEST, chain), False)

    def test_the_empty_chain(self):
        for size in (1, 2, 3):
            for grouping in try_groupings(size):
                row = ["o"] * size
                self.assertEqual(chain_end(grouping=grouping, chain=[], row=row, rule=NONE), grouping)
                self.assertIs(is_chain(NONE, row, one=grouping, other=grouping, value=[]), True)
                self.assertEqual(triples_used(kinds=even(), row=row, grouping=grouping, chain=[]), [])
                self.assertIsNone(barring_deed(rule=NONE, row=row, grouping=grouping, chain=[]))
        self.assertEqual(chain_back(chain=[]), [])
        self.assertIs(is_chain(NONE, ["o"] * 3, [(0, 2), (0, 3)], [(0, 3), (1, 3)], []), False)

    def test_long_chains(self):
        deed = ("right", 0, 2, 3, 4)
        chain = [deed, contrary(deed)] * 30
        self.assertEqual(chain_end(seven(), ROW, LEFT, chain), LEFT)
        self.assertEqual(chain_back(chain), chain)
        self.assertIsNone(barring_deed(seven(), ROW, LEFT, chain))

    def test_is_chain_of_any_object(self):
        check_judge(self, lambda value: is_chain(seven(), ROW, LEFT, LEFT, value), [[]])
        check_judge(self, lambda value: is_chain(seven(), ROW, LEFT, PAIRS, value))
        good = ("right", 0, 2, 3, 4)
        self.assertIs(is_chain(seven(), ROW, LEFT, PAIRS, [good]), True)
        for value in [(good,), good, {good: 1}, [list(good)], [good, None], [None], [good, good], [(good,)]]:
            self.assertIs(is_chain(seven(), ROW, LEFT, PAIRS, value), False)

    def test_wrong_arguments(self):
        deed = ("right", 0, 2, 3, 4)
        shape = [[wrong] for wrong in WRONG_FORM]
        shape += [(), (deed,), {}, {0: deed}, deed, None, "right", [[]], [list(deed)]]
        apart = shape + [[deed, deed], [("left", 0, 2, 3, 4)], [deed, ("right", 0, 2, 3, 4)]]
        ahead = [("rule", InvalidRule, WRONG_RULES), ("row", InvalidRow, WRONG_ROWS),
                 ("grouping", InvalidGrouping, OF_FOUR)]
        good = [("rule", seven()), ("row", list(ROW)), ("grouping", list(LEFT)), ("chain", [deed])]
        # The triple of the deed from 0 to 3 is (o, o, o), which the rule bars.
        check_wrong(self, chain_end, lambda: list(good),
                    ahead + [("chain", InvalidChain, apart + [[("right", 0, 1, 2, 3)], [deed, ("left", 0, 1, 2, 3)]])])
        check_wrong(self, barring_deed, lambda: list(good), ahead + [("chain", InvalidChain, apart)])
        check_wrong(self, triples_used, lambda: [("kinds", even())] + good[1:],
                    [("kinds", InvalidKinds, WRONG_KINDS)] + ahead[1:] + [("chain", InvalidChain, apart)])
        check_wrong(self, chain_back, lambda: good[3:], [("chain", InvalidChain, shape)])
        check_wrong(self, is_chain, lambda: good[:2] + [("one", list(LEFT)), ("other", list(PAIRS)), ("value", None)],
                    ahead[:2] + [("one", InvalidGrouping, OF_FOUR), ("other", InvalidGrouping, OF_FOUR)])

    def test_what_was_passed_or_returned_may_change(self):
        rule, row, grouping, chain = seven(), list(ROW), list(LEFT), [("right", 0, 2, 3, 4)]
        before = shown([rule, row, grouping, chain])
        for made in (fitting_deeds(rule, row, grouping), let_deeds(rule, row, grouping), chain_back(chain),
                     done(rule, row, grouping, chain[0]), chain_end(rule, row, grouping, chain), chain_back([]),
                     chain_end(rule, row, grouping, []), triples_used(even(), row, grouping, chain),
                     five_edges(even(), row), five_parts(rule, row), five_parts(rule, row)[0]):
            made.append(None)
        is_chain(rule, row, grouping, PAIRS, chain)
        barring_deed(rule, row, grouping, chain)
        self.assertEqual(shown([rule, row, grouping, chain]), before)
        self.assertEqual(chain_end(rule, row, grouping, chain), PAIRS)
        self.assertEqual(five_parts(rule, row), [[0, 3, 4], [1, 2]])


class Fours(unittest.TestCase):
    def test_edges_are_the_triples_of_the_deeds(self):
        for kinds in some_kinds():
            rule = Rule(kinds, every_triple(kinds))
            for four in rows_of(kinds, 4)[::3]:
                edges = five_edges(kinds, four)
                for (one, other), triple in zip([(0, 1), (1, 2), (2, 3), (0, 4), (4, 3)], edges):
                    deeds = [deed for deed in try_deeds(CORNERS[one])
                             if try_done(CORNERS[one], deed) == CORNERS[other]]
                    self.assertEqual([deed[0] for deed in deeds], ["right"])
                    self.assertEqual(deed_triple(rule, four, deeds[0]), triple)
        self.assertEqual(five_edges(four=["e", "o", "o", "e"], kinds=even())[1], ("e", "e", "e"))

    def test_parts_are_the_corners_that_let_deeds_join(self):
        for rule in some_rules():
            for four in rows_of(rule.kinds(), 4)[::5]:
                parts = []
                for corner in CORNERS:
                    seen = [corner]
                    for there in seen:
                        steps = [try_done(there, deed) for deed in try_deeds(there)
                                 if try_triple(rule.kinds(), four, deed) in rule.triples()]
                        seen += [step for step in steps if step not in seen]
                    parts.append(sorted(CORNERS.index(there) for there in seen))
                before = list(four)
                self.assertEqual(five_parts(rule, four), sorted(part for n, part in enumerate(parts) if part[0] == n))
                self.assertEqual(four, before)
        self.assertEqual(five_parts(rule=NONE, four=ROW), [[0], [1], [2], [3], [4]])
        self.assertEqual(five_parts(EIGHT, ROW), [[0, 1, 2, 3, 4]])

    def test_wrong_fours(self):
        wrong = WRONG_ROWS + [["e"] * 3, ["e"] * 5, ("e", "o", "o", "e"), ["e", "o", "o", "x"], ["e", "o", "o", None],
                              "eooe", ["e", "o", "o", ["e"]], ["e", "o", "o", even()], {"e": 0, "o": 1}]
        check_wrong(self, five_edges, lambda: [("kinds", even()), ("four", list(ROW))],
                    [("kinds", InvalidKinds, WRONG_KINDS), ("four", InvalidFour, wrong)])
        check_wrong(self, five_parts, lambda: [("rule", seven()), ("four", list(ROW))],
                    [("rule", InvalidRule, WRONG_RULES), ("four", InvalidFour, wrong)])

    def test_bad_groupings_are_bad_here_too(self):
        for wrong in BAD_GROUPINGS:
            error = raised(lambda: fitting_deeds(seven(), ROW, wrong))
            self.assertIs(type(error), InvalidGrouping)
            self.assertIs(error.value, wrong)


if __name__ == "__main__":
    unittest.main()
