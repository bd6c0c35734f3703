"""Section 15: finer and coarser ([81] to [86]), with [2] for them."""

import random
import unittest
from itertools import combinations, product

from kindshifts.combing import Comb, left_comb, right_comb
from kindshifts.errors import InvalidKinds, InvalidMap, InvalidRow, InvalidRule, Unlike
from kindshifts.kinds import Kinds, all_maps, closed_lists, first_kinds, is_map, ring_kinds
from kindshifts.orders import (alike_kinds, alike_on, carries, cut_rule, folded_rule, folding, free_lists, is_finer,
                               is_parting_pair, is_pulled, is_sorted_along, meet_rule, parting_pair, pulled_rule,
                               pushed_rule, rest_rule, row_sent, still_lists, union_rule)
from kindshifts.rules import Rule
from kindshifts.settled import is_settled
from tests.support import (check_judge, check_wrong, even, every_triple, raised, rows_of, rule_of, seven, shown,
                           some_kinds, try_classes, try_groupings, two_kinds, wrong_for)
from tests.test_groupings import BAD_GROUPINGS, LEFT, PAIRS
from tests.test_kinds import WRONG_KINDS, WRONG_NAMES, WRONG_ROWS
from tests.test_rules import WRONG_RULES

ROW = ["o", "o", "o", "o"]
ALL = Rule(even(), every_triple(even()))
NONE = Rule(even(), [])
MIDDLE = Rule(even(), [("e", "e", "e"), ("e", "e", "o"), ("o", "e", "e"), ("o", "e", "o")])
OTHER_KINDS = [Rule(first_kinds(["e", "o"]), []), Rule(first_kinds(["e"]), []), Rule(ring_kinds(["o", "e"]), []),
               Rule(ring_kinds(["x", "y"]), [("x", "x", "x")])]
FOUR = Kinds({("a", "a"): "a", ("a", "b"): "b", ("b", "a"): "b", ("b", "b"): "a", ("a", "c"): "c", ("c", "a"): "c",
              ("a", "d"): "d", ("d", "a"): "d", ("b", "c"): "d", ("c", "b"): "d", ("b", "d"): "c", ("d", "b"): "c",
              ("c", "c"): "a", ("c", "d"): "b", ("d", "c"): "b", ("d", "d"): "a"})
SENT = {"a": "e", "b": "o", "c": "e", "d": "o"}
DEEP = pulled_rule(seven(), FOUR, SENT)
WRONG_MAPS = wrong_for() + [{"e": "e"}, {"e": "e", "o": "x"}, {"e": "e", "o": []}, {"e": "e", "o": "o", "x": "e"},
                            {"e": "e", "x": "o"}, [("e", "e"), ("o", "o")], {"e": "e", "o": None}, even()]


def some_rules():
    """Rules of one to four kinds, with few triples and with many."""
    chance, found = random.Random(61), [ALL, NONE, MIDDLE, DEEP, seven()]
    for kinds in (some_kinds() + two_kinds()) * 3:
        share = chance.choice([0, 0.05, 0.3, 0.9, 1])
        found.append(Rule(kinds, [triple for triple in every_triple(kinds) if chance.random() < share]))
    return found


def pulled_ones():
    """Rules pulled from others of fewer kinds, and the rules and maps from which they were."""
    found = []
    for kinds, other in product(some_kinds(), two_kinds() + some_kinds()[:2]):
        for sent in all_maps(kinds, other)[:3]:
            for number in (0, 1, 60, 129, 254):
                rule = rule_of(other, number)
                found.append((pulled_rule(rule, kinds, sent), rule, sent))
    return found


def try_joined(rule, row, one, other):
    return any(one in found and other in found for found in try_classes(rule, row))


def partings(names):
    """All lists of lists that part some names, they and their lists ascending."""
    lists = [[]]
    for name in names:
        lists = [held + [[name]] for held in lists] + [
            [some + [name] if some is grown else some for some in held] for held in lists for grown in held]
    return sorted(sorted(held) for held in lists)


def try_sorts_along(rule, lists):
    """Whether kinds are sorted along a parting, by the words of [86]."""
    put, held = rule.kinds().put, rule.triples()
    home = {name: place for place, names in enumerate(lists) for name in names}
    for names in lists:
        for one, other, name in product(names, names, home):
            if home[put(one, name)] != home[put(other, name)] or home[put(name, one)] != home[put(name, other)]:
                return False
    for lots in product(lists, repeat=3):
        told = [triple in held for triple in product(*lots)]
        if any(told) and not all(told):
            return False
    return True


class Two(unittest.TestCase):
    def test_against_sets(self):
        chance = random.Random(67)
        for kinds in some_kinds() + two_kinds():
            triples = every_triple(kinds)
            for _ in range(20):
                one, other = [Rule(kinds, [triple for triple in triples if chance.random() < 0.6]) for _ in range(2)]
                ours, theirs = set(one.triples()), set(other.triples())
                self.assertEqual(meet_rule(one, other), Rule(kinds, sorted(ours & theirs)))
                self.assertEqual(union_rule(one, other), Rule(kinds, sorted(ours | theirs)))
                self.assertEqual(rest_rule(one, other), Rule(kinds, sorted(ours - theirs)))
                self.assertIs(is_finer(one, other), ours <= theirs)
                self.assertIs(is_finer(other=one, one=meet_rule(other=other, one=one)), True)
                self.assertIs(is_finer(other, union_rule(other=one, one=other)), True)
                self.assertIs(is_finer(one, rest_rule(other=other, one=one)), not ours & theirs)

    def test_alike_and_parting_pairs(self):
        chance = random.Random(71)
        for kinds in two_kinds() + some_kinds():
            for size in (1, 2, 3, 4, 5, 6):
                one, other = [Rule(kinds, [triple for triple in every_triple(kinds) if chance.random() < 0.8])
                              for _ in range(2)]
                row = [chance.choice(kinds.kinds()) for _ in range(size)]
                self.ask_pair(one, other, row)
                self.ask_pair(one, one, row)
        self.assertIs(alike_on(row=["o", "o"], other=NONE, one=ALL), True)
        self.assertIsNone(parting_pair(row=["o"], other=NONE, one=ALL))

    def ask_pair(self, one, other, row):
        ours, theirs = try_classes(one, row), try_classes(other, row)
        self.assertIs(alike_on(one, other, row), ours == theirs)
        found = parting_pair(one, other, row)
        self.assertIs(found is None, ours == theirs)
        self.assertIs(is_parting_pair(one, other, row, found), ours != theirs)
        tried = try_groupings(len(row))
        for here, there in product(tried[::3], repeat=2):
            joined = [any(here in some and there in some for some in classes) for classes in (ours, theirs)]
            self.assertIs(is_parting_pair(one, other, row, (here, there)), joined[0] != joined[1])

    def test_unlike_rules_are_told_by_rows_of_three(self):
        for one, other in combinations([rule_of(even(), number) for number in range(0, 256, 19)], 2):
            self.assertFalse(all(alike_on(one, other, row) for row in rows_of(even(), 3)))

    def test_any_object(self):
        check_judge(self, lambda value: is_parting_pair(ALL, NONE, ROW, value))
        self.assertIs(is_parting_pair(value=(LEFT, PAIRS), row=ROW, other=NONE, one=ALL), True)
        for value in [[LEFT, PAIRS], (LEFT,), (LEFT, PAIRS, LEFT), (tuple(LEFT), tuple(PAIRS)), (LEFT, None),
                      (LEFT, LEFT), {0: LEFT, 1: PAIRS}, (LEFT, [(0, 2)])]:
            self.assertIs(is_parting_pair(ALL, NONE, ROW, value), False)
        for wrong in BAD_GROUPINGS:
            self.assertIs(is_parting_pair(ALL, NONE, ROW, (LEFT, wrong)), False)
            self.assertIs(is_parting_pair(ALL, NONE, ROW, (wrong, LEFT)), False)


class Maps(unittest.TestCase):
    def test_pulled_rules(self):
        for deep, rule, sent in pulled_ones():
            held = rule.triples()
            self.assertEqual(deep.triples(), [triple for triple in every_triple(deep.kinds())
                                              if tuple(sent[name] for name in triple) in held])
            self.assertIs(is_pulled(deep, rule, sent), True)
            self.assertIs(carries(deep, rule, sent), True)
        self.assertEqual(pulled_rule(sent={"z": "e"}, kinds=first_kinds(["z"]), rule=NONE),
                         Rule(first_kinds(["z"]), []))

    def test_joined_just_as_the_rows_sent(self):
        chance = random.Random(73)
        for deep, rule, sent in pulled_ones()[::7]:
            row = [chance.choice(deep.kinds().kinds()) for _ in range(4)]
            self.assertEqual(try_classes(deep, row), try_classes(rule, row_sent(deep.kinds(), row, sent)))
            for made in (right_comb, left_comb):
                if is_settled(made(rule)):
                    self.assertIs(is_settled(made(deep)), True)

    def test_a_settled_comb_is_pulled_to_a_settled_one(self):
        for kinds in some_kinds():
            for sent in all_maps(kinds, even()):
                for comb in [right_comb(seven()), right_comb(MIDDLE), left_comb(ALL)]:
                    rule = pulled_rule(comb.rule(), kinds, sent)
                    arrows = {triple: comb.arrows()[tuple(sent[name] for name in triple)] for triple in rule.triples()}
                    layers = [{(a, b): layer[(sent[a], sent[b])] for a, b in product(kinds.kinds(), repeat=2)}
                              for layer in comb.layers()]
                    self.assertTrue(not is_settled(comb) or is_settled(Comb(rule, arrows, layers)))

    def test_carried_and_pushed(self):
        chance = random.Random(79)
        for one, other in product(some_rules()[::2], some_rules()[1::3]):
            for sent in all_maps(one.kinds(), other.kinds())[:4]:
                goals = [tuple(sent[name] for name in triple) for triple in one.triples()]
                self.assertIs(carries(one, other, sent), set(goals) <= set(other.triples()))
                pushed = pushed_rule(one, other.kinds(), sent)
                self.assertEqual(pushed, Rule(other.kinds(), sorted(set(goals))))
                self.assertIs(carries(sent=sent, other=pushed, one=one), True)
                self.assertIs(is_pulled(sent=sent, other=other, one=one),
                              one == pulled_rule(other, one.kinds(), sent))
                if goals:
                    # It is the finest one that the rule is carried into.
                    less = Rule(other.kinds(), [triple for triple in pushed.triples()
                                                if triple != chance.choice(goals)])
                    self.assertIs(carries(one, less, sent), less == pushed)
        self.assertEqual(pushed_rule(sent={"o": "z", "e": "z"}, kinds=first_kinds(["z"]), rule=NONE).triples(), [])

    def test_rows_sent(self):
        self.assertEqual(row_sent(sent={"o": "zz", "e": "zz"}, row=["o", "e"], kinds=even()), ["zz", "zz"])
        # What sends a row need not be a map.
        sent = {"e": "o", "o": "x"}
        self.assertIs(is_map(even(), even(), sent), False)
        self.assertEqual(row_sent(even(), ["o", "e", "o"], sent), ["x", "o", "x"])
        for kinds in some_kinds():
            for sent in all_maps(kinds, even()):
                for row in rows_of(kinds, 2):
                    self.assertEqual(row_sent(kinds, row, sent), [sent[name] for name in row])


class Cut(unittest.TestCase):
    def test_cut_rules(self):
        for rule in some_rules():
            for names in closed_lists(rule.kinds()):
                for some in (names, names[::-1]):
                    cut = cut_rule(names=some, rule=rule)
                    self.assertEqual(cut.kinds().kinds(), names)
                    self.assertEqual(cut.triples(), [triple for triple in rule.triples() if set(triple) <= set(names)])
                    self.assertTrue(all(cut.kinds().put(a, b) == rule.kinds().put(a, b)
                                        for a, b in product(names, repeat=2)))
                for size in (3, 4):
                    row = (names * 4)[:size]
                    self.assertEqual(try_classes(cut_rule(rule, names), row), try_classes(rule, row))

    def test_free_and_still_lists(self):
        for rule in some_rules()[::2]:
            free, still = [], []
            for names in closed_lists(rule.kinds()):
                rows = [list(row) for size in (1, 3, 4) for row in product(names, repeat=size)]
                classes = [try_classes(rule, row) for row in rows]
                if all(len(found) == 1 for found in classes):
                    free.append(names)
                if all(len(some) == 1 for found in classes for some in found):
                    still.append(names)
            self.assertEqual(free_lists(rule=rule), free)
            self.assertEqual(still_lists(rule=rule), still)
        self.assertEqual(free_lists(Rule(first_kinds(["z"]), [])), [])
        self.assertEqual(still_lists(Rule(first_kinds(["z"]), [])), [["z"]])


class Folding(unittest.TestCase):
    def asked(self):
        return some_rules() + [deep for deep, _, _ in pulled_ones()[::9]] + [
            rule_of(kinds, number) for kinds in two_kinds() for number in range(0, 256, 5)]

    def test_alike_kinds_out_of_all_partings(self):
        for rule in self.asked():
            found = [lists for lists in partings(rule.kinds().kinds()) if try_sorts_along(rule, lists)]
            fewest = min(len(lists) for lists in found)
            self.assertEqual([lists for lists in found if len(lists) == fewest], [alike_kinds(rule=rule)])
            for lists in partings(rule.kinds().kinds()):
                self.assertIs(is_sorted_along(rule, lists), lists in found)
                if len(lists) > 1:
                    self.assertIs(is_sorted_along(rule, lists[::-1]), False)

    def test_folded_rules(self):
        chance = random.Random(83)
        for rule in self.asked():
            lists, folded, sent = alike_kinds(rule), folded_rule(rule=rule), folding(rule=rule)
            firsts = [names[0] for names in lists]
            self.assertEqual(list(sent.items()), [(name, names[0]) for name in rule.kinds().kinds()
                                                  for names in lists if name in names])
            self.assertEqual(folded.kinds().kinds(), firsts)
            for a, b in product(firsts, repeat=2):
                self.assertEqual(folded.kinds().put(a, b), sent[rule.kinds().put(a, b)])
            self.assertEqual(folded.triples(), [triple for triple in rule.triples() if set(triple) <= set(firsts)])
            self.assertEqual(pulled_rule(folded, rule.kinds(), sent), rule)
            self.assertEqual(len(alike_kinds(folded)), len(lists))
            row = [chance.choice(rule.kinds().kinds()) for _ in range(4)]
            self.assertEqual(try_classes(rule, row), try_classes(folded, row_sent(rule.kinds(), row, sent)))

    def test_all_lists_of_lists(self):
        names = [[], ["e"], ["o"], ["e", "o"], ["o", "e"], ["e", "e"], ["x"], ["e", "x"]]
        for rule in (ALL, seven(), NONE, MIDDLE):
            good = [lists for lists in partings(["e", "o"]) if try_sorts_along(rule, lists)]
            for many in range(4):
                for lists in product(names, repeat=many):
                    self.assertIs(is_sorted_along(rule, list(lists)), list(lists) in good)

    def test_any_object(self):
        check_judge(self, lambda value: is_sorted_along(ALL, value))
        for value in [(["e"], ["o"]), [("e",), ("o",)], [["e", "o"], []], [[], ["e", "o"]], ["e", "o"],
                      [["e", "o", "x"]],
                      [["e", ["o"]]], {0: ["e", "o"]}, [["e", "o"], None], [["o", "e"]], [["o"], ["e"]],
                      [[even(), "o"]]]:
            self.assertIs(is_sorted_along(ALL, value), False)
        self.assertIs(is_sorted_along(value=[["e", "o"]], rule=ALL), True)


class Wrong(unittest.TestCase):
    def test_two_rules(self):
        both = [("one", seven()), ("other", MIDDLE)]
        wrong = [("one", InvalidRule, WRONG_RULES), ("other", InvalidRule, WRONG_RULES)]
        for function in (is_finer, meet_rule, union_rule, rest_rule):
            check_wrong(self, function, lambda: list(both), wrong)
        rows = wrong + [("row", InvalidRow, WRONG_ROWS)]
        for function in (alike_on, parting_pair):
            check_wrong(self, function, lambda: both + [("row", list(ROW))], rows)
        check_wrong(self, is_parting_pair, lambda: both + [("row", list(ROW)), ("value", None)], rows)

    def test_unlike_comes_behind_both_rules_and_ahead_of_the_row(self):
        for function in (is_finer, meet_rule, union_rule, rest_rule):
            self.ask_unlike(function, [])
        for row in [ROW] + WRONG_ROWS[:5]:
            self.ask_unlike(alike_on, [row])
            self.ask_unlike(parting_pair, [row])
            self.ask_unlike(is_parting_pair, [row, None])

    def ask_unlike(self, function, rest):
        for one, other in list(product([seven()], OTHER_KINDS)) + list(product(OTHER_KINDS, [NONE])):
            error = raised(lambda: function(one, other, *rest))
            if one.kinds() == other.kinds():
                self.assertNotIsInstance(error, Unlike)
            else:
                self.assertIs(type(error), Unlike)
                self.assertIs(error.value, other)
        self.assertIs(type(raised(lambda: function(None, OTHER_KINDS[0], *rest))), InvalidRule)

    def test_maps(self):
        check_wrong(self, pulled_rule, lambda: [("rule", seven()), ("kinds", even()), ("sent", {"o": "e", "e": "e"})],
                    [("rule", InvalidRule, WRONG_RULES), ("kinds", InvalidKinds, WRONG_KINDS),
                     ("sent", InvalidMap, WRONG_MAPS + [{"e": "o", "o": "o"}])])
        check_wrong(self, pushed_rule, lambda: [("rule", seven()), ("kinds", even()), ("sent", {"o": "e", "e": "e"})],
                    [("rule", InvalidRule, WRONG_RULES), ("kinds", InvalidKinds, WRONG_KINDS),
                     ("sent", InvalidMap, WRONG_MAPS + [{"e": "o", "o": "o"}])])
        for function in (carries, is_pulled):
            check_wrong(self, function, lambda: [("one", seven()), ("other", MIDDLE), ("sent", {"o": "o", "e": "e"})],
                        [("one", InvalidRule, WRONG_RULES), ("other", InvalidRule, WRONG_RULES),
                         ("sent", InvalidMap, WRONG_MAPS + [{"e": "o", "o": "o"}])])
        check_wrong(self, row_sent, lambda: [("kinds", even()), ("row", ["o"]), ("sent", {"o": "e", "e": "zz"})],
                    [("kinds", InvalidKinds, WRONG_KINDS), ("row", InvalidRow, WRONG_ROWS),
                     ("sent", InvalidMap, [value for value in WRONG_MAPS if value != {"e": "e", "o": "x"}] + [
                         {"e": "e", "o": "X"}, {"e": "e", "o": ""}])])

    def test_a_map_goes_the_right_way(self):
        # From the kinds passed to the rule's, or from the rule's to the kinds passed.
        self.assertIs(type(raised(lambda: pulled_rule(DEEP, even(), SENT))), InvalidMap)
        self.assertIs(type(raised(lambda: pushed_rule(seven(), FOUR, SENT))), InvalidMap)
        self.assertIs(type(raised(lambda: carries(seven(), DEEP, SENT))), InvalidMap)
        self.assertIs(type(raised(lambda: is_pulled(seven(), DEEP, SENT))), InvalidMap)

    def test_lone_rules(self):
        wrong = [("rule", InvalidRule, WRONG_RULES)]
        for function in (free_lists, still_lists, alike_kinds, folded_rule, folding):
            check_wrong(self, function, lambda: [("rule", seven())], wrong)
        check_wrong(self, is_sorted_along, lambda: [("rule", seven()), ("value", None)], wrong)
        check_wrong(self, cut_rule, lambda: [("rule", seven()), ("names", ["o", "e"])],
                    wrong + [("names", InvalidKinds, WRONG_NAMES + [["o"], ["e", "o", "e"], ["x"], []])])

    def test_what_was_passed_or_returned_may_change(self):
        row, sent, names, lists = ["a", "d"], dict(SENT), ["c", "a"], [["a", "c"], ["b", "d"]]
        before = shown([DEEP, row, sent, names, lists])

        def told():
            return [row_sent(FOUR, row, sent), free_lists(DEEP), free_lists(DEEP)[0], still_lists(NONE),
                    still_lists(NONE)[0], alike_kinds(DEEP), alike_kinds(DEEP)[0], cut_rule(DEEP, names).triples(),
                    parting_pair(ALL, NONE, ROW)[0], parting_pair(ALL, NONE, ROW)[1], meet_rule(DEEP, DEEP).triples()]
        first = shown([told(), folding(DEEP), is_sorted_along(DEEP, lists)])
        for made in told():
            made.append(None)
        folding(DEEP).clear()
        self.assertEqual(shown([told(), folding(DEEP), is_sorted_along(DEEP, lists)]), first)
        self.assertEqual(shown([DEEP, row, sent, names, lists]), before)
        # The order of the keys of a map means nothing.
        self.assertEqual(pulled_rule(seven(), FOUR, dict(reversed(list(SENT.items())))), DEEP)


if __name__ == "__main__":
    unittest.main()
