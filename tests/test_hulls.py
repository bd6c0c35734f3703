"""Section 13: hulls ([71] to [76]), with [2] for them."""

import random
import unittest
from functools import lru_cache
from itertools import product

from kindshifts.combing import left_comb, right_comb
from kindshifts.errors import (InvalidFour, InvalidGrouping, InvalidKinds, InvalidRow, InvalidRule, InvalidWord)
from kindshifts.hulls import (are_reasons, both_hull, force, hull, is_opening, is_settled_to, is_through, least_bases,
                              many_settled, opening, reasons, rounds, settled_within, through, told_by_hulls)
from kindshifts.kinds import first_kinds, greatest_kinds
from kindshifts.rules import Rule, chain_end, is_chain, mirrored_rule
from kindshifts.settled import is_settled, settled_words
from tests.support import (check_judge, check_wrong, even, every_triple, lesser, raised, rows_of, rule_of, shown,
                           try_classes, try_groupings, try_settled, two_kinds, wrong_for)
from tests.test_groupings import BAD_GROUPINGS, LEFT, OF_FOUR
from tests.test_kinds import WRONG_KINDS, WRONG_ROWS
from tests.test_rules import WRONG_FORM, WRONG_RULES
from tests.test_settled import WRONG_FOURS

ROW = ["o", "o", "o", "o"]
ODDS = Rule(even(), [("e", "o", "o"), ("o", "o", "o")])
ALL = Rule(even(), every_triple(even()))
NONE = Rule(even(), [])
WRONG_WORDS = [value for value in wrong_for() if value not in ("right", "left")] + [
    "Right", "rights", ["right"], ("left",), "left ", {"right": 1}]


def try_edges(kinds, four):
    """The triples that four kinds ask for and that they force, by the words of [71], for each word."""
    a, b, c, d = four
    ab, bc, cd = kinds.put(a, b), kinds.put(b, c), kinds.put(c, d)
    return {"right": ([(a, b, c), (ab, c, d)], [(a, bc, d), (b, c, d), (a, b, cd)]),
            "left": ([(b, c, d), (a, b, cd)], [(a, bc, d), (a, b, c), (ab, c, d)])}


def try_openings(rule, word):
    """The fours for which it is not so, with the triples that are lacking."""
    found, held = [], rule.triples()
    for four in rows_of(rule.kinds(), 4):
        asked, forced = try_edges(rule.kinds(), four)[word]
        lacking = [triple for triple in forced if triple not in held]
        if all(triple in held for triple in asked) and lacking:
            found.append((four, lacking))
    return found


@lru_cache(maxsize=None)
def settled_numbers(place, word):
    """The numbers of all rules of some two kinds that are settled to a side."""
    kinds = two_kinds()[place]
    return [number for number in range(256) if not try_openings(rule_of(kinds, number), word)]


def lists_of(kinds, numbers):
    return sorted(rule_of(kinds, number).triples() for number in numbers)


def some_rules(many):
    """Rules of two and of three kinds, of at most seven triples."""
    chance = random.Random(47)
    kinds = [first_kinds(["a", "b", "c"]), greatest_kinds(["b", "c", "a"]), greatest_kinds(["a", "b"])]
    return [Rule(some, sorted(chance.sample(every_triple(some), chance.randint(0, 7))))
            for some in kinds for _ in range(many)]


class Settled(unittest.TestCase):
    def test_settled_to_a_side(self):
        for kinds in two_kinds():
            for number in range(256):
                rule = rule_of(kinds, number)
                words = [word for word in ("left", "right") if is_settled_to(rule, word)]
                self.assertEqual(words, [word for word in ("left", "right") if not try_openings(rule, word)])
                self.assertEqual(words, settled_words(rule))

    def test_settled_as_tried_with_rows(self):
        for kinds in (even(), lesser()):
            for number in range(5, 256, 25):
                rule = rule_of(kinds, number)
                for word, made in (("right", right_comb), ("left", left_comb)):
                    good = all(try_settled(made(rule), row) for size in (4, 5) for row in rows_of(kinds, size))
                    self.assertIs(is_settled_to(word=word, rule=rule), good)
                    self.assertIs(is_settled(made(rule)), good)

    def test_openings(self):
        for rule in [rule_of(kinds, number) for kinds in two_kinds() for number in range(7, 256, 31)] + some_rules(5):
            for word in ("right", "left"):
                found = [four for four, _ in try_openings(rule, word)]
                told = opening(rule, word)
                self.assertTrue(told in found if found else told is None)
                self.assertIs(is_opening(rule, word, told), bool(found))
                for four in rows_of(rule.kinds(), 4):
                    self.assertIs(is_opening(rule, word, four), four in found)
        for word in ("right", "left"):
            self.assertIsNone(opening(NONE, word))
            self.assertIsNone(opening(word=word, rule=ALL))

    def test_openings_of_any_object(self):
        check_judge(self, lambda value: is_opening(ODDS, "right", value))
        check_judge(self, lambda value: is_opening(NONE, "left", value))
        for wrong in WRONG_FOURS:
            self.assertIs(is_opening(ODDS, "right", wrong), False)
        self.assertIs(is_opening(value=ROW, word="right", rule=ODDS), True)
        self.assertIs(is_opening(ODDS, "right", tuple(ROW)), False)

    def test_many_settled(self):
        for place, kinds in enumerate(two_kinds()):
            for word in ("right", "left"):
                self.assertEqual(many_settled(kinds, word), len(settled_numbers(place, word)))
        self.assertEqual(many_settled(word="left", kinds=first_kinds(["z"])), 2)
        self.assertEqual(many_settled(even(), "left"), 51)


class Hulls(unittest.TestCase):
    def test_hulls_are_the_least_settled_rules_of_all(self):
        for place, kinds in enumerate(two_kinds()):
            both = [number for number in settled_numbers(place, "right") if number in settled_numbers(place, "left")]
            for number in range(0, 256, 7):
                rule = rule_of(kinds, number)
                for numbers, made in ((settled_numbers(place, "right"), hull(rule, "right")),
                                      (settled_numbers(place, "left"), hull(rule, "left")), (both, both_hull(rule))):
                    least = 255
                    for some in numbers:
                        if some & number == number:
                            least &= some
                    self.assertIn(least, numbers)
                    self.assertEqual(made, rule_of(kinds, least))

    def test_more_kinds(self):
        for rule in some_rules(8):
            for word in ("right", "left"):
                held, brought, many = rule.triples(), {}, 0
                lacking = [triple for _, triples in try_openings(rule, word) for triple in triples]
                while lacking:
                    many += 1
                    brought.update({triple: many for triple in lacking})
                    held = sorted(set(held + lacking))
                    lacking = [triple for _, triples in try_openings(Rule(rule.kinds(), held), word)
                               for triple in triples]
                self.assertEqual(hull(rule, word).triples(), held)
                self.assertEqual(shown(rounds(rule, word)),
                                 shown({triple: brought[triple] for triple in sorted(brought)}))
        wide = first_kinds(["a", "b", "c", "d"])
        self.assertEqual(both_hull(Rule(wide, every_triple(wide))).triples(), every_triple(wide))

    def test_rules_that_are_settled(self):
        for rule in (NONE, ALL, Rule(first_kinds(["z"]), []), Rule(first_kinds(["z"]), [("z", "z", "z")])):
            for word in ("right", "left"):
                self.assertEqual(hull(word=word, rule=rule), rule)
                self.assertEqual((rounds(rule, word), reasons(rule, word)), ({}, []))
                self.assertIs(are_reasons(rule, word, []), True)
            self.assertEqual(both_hull(rule=rule), rule)

    def test_force(self):
        for rule in [rule_of(kinds, number) for kinds in two_kinds() for number in range(0, 256, 37)] + some_rules(3):
            for word in ("right", "left"):
                found = {tuple(four): sorted(set(lacking)) for four, lacking in try_openings(rule, word)}
                for four in rows_of(rule.kinds(), 4):
                    self.assertEqual(force(rule, word, four), found.get(tuple(four), []))
        self.assertEqual(force(four=ROW, word="right", rule=ODDS), [("o", "e", "o"), ("o", "o", "e")])


class Reasons(unittest.TestCase):
    def test_reasons(self):
        for rule in [rule_of(kinds, number) for kinds in two_kinds() for number in range(3, 256, 13)] + some_rules(8):
            for word in ("right", "left"):
                told = reasons(rule, word)
                self.assertIs(are_reasons(rule, word, told), True)
                self.assertTrue(self.try_reasons(rule, word, told))
                for place in range(len(told)):
                    for other in (told[:place] + told[place + 1:], told[place:] + told[:place],
                                  told + [told[place]], told[:place] + [told[place]] + told[place:]):
                        self.assertIs(are_reasons(rule, word, other), self.try_reasons(rule, word, other))

    def try_reasons(self, rule, word, value):
        held = rule.triples()
        for triple, four in value:
            asked, forced = try_edges(rule.kinds(), four)[word]
            if triple in held or triple not in forced or not all(some in held for some in asked):
                return False
            held = held + [triple]
        return not try_openings(Rule(rule.kinds(), sorted(held)), word)

    def test_other_fours_may_force_the_same(self):
        told, taken = reasons(ODDS, "right"), 0
        for place, (triple, _) in enumerate(told):
            for four in rows_of(even(), 4):
                other = told[:place] + [(triple, four)] + told[place + 1:]
                taken += are_reasons(ODDS, "right", other)
                self.assertIs(are_reasons(ODDS, "right", other), self.try_reasons(ODDS, "right", other))
        self.assertGreater(taken, len(told))

    def test_any_object(self):
        told = reasons(ODDS, "right")
        check_judge(self, lambda value: are_reasons(ODDS, "right", value))
        check_judge(self, lambda value: are_reasons(NONE, "left", value), [[]])
        for wrong in wrong_for() + WRONG_FOURS:
            for first in (wrong, (told[0][0], wrong), (wrong, told[0][1])):
                self.assertIs(are_reasons(ODDS, "right", [first] + told[1:]), False)
        for value in [tuple(told), [list(one) for one in told], [(four, triple) for triple, four in told], [told],
                      [(list(triple), four) for triple, four in told], [(triple, tuple(four)) for triple, four in told],
                      told + [None], [one + (None,) for one in told], [one[:1] for one in told], dict(enumerate(told))]:
            self.assertIs(are_reasons(ODDS, "right", value), False)
        self.assertIs(are_reasons(value=told, word="right", rule=ODDS), True)


class Within(unittest.TestCase):
    def test_settled_within(self):
        for place, kinds in enumerate(two_kinds()):
            for number in range(0, 256, 11):
                for word in ("right", "left"):
                    lying = [some for some in settled_numbers(place, word) if some & number == some]
                    greatest = [some for some in lying if not any(some & other == some != other for other in lying)]
                    self.assertEqual(settled_within(rule_of(kinds, number), word), lists_of(kinds, greatest))
        self.assertEqual(settled_within(word="left", rule=NONE), [[]])
        self.assertEqual(settled_within(ALL, "left"), [ALL.triples()])

    def test_least_bases(self):
        for place, kinds in enumerate(two_kinds()):
            for number in range(0, 256, 17):
                rule = rule_of(kinds, number)
                for word in ("right", "left"):
                    numbers = settled_numbers(place, word)
                    goal = self.try_hull(numbers, number)
                    bases = [some for some in range(256) if some & number == some
                             and self.try_hull(numbers, some) == goal]
                    least = [some for some in bases if not any(some & other == other != some for other in bases)]
                    self.assertEqual(least_bases(rule, word), lists_of(kinds, least))
        self.assertEqual(least_bases(word="right", rule=NONE), [[]])

    def try_hull(self, numbers, number):
        least = 255
        for some in numbers:
            if some & number == number:
                least &= some
        return least

    def test_three_kinds(self):
        for rule in some_rules(4):
            for word in ("right", "left"):
                lists = settled_within(rule, word)
                self.assertEqual(lists, sorted(lists))
                self.assertTrue(all(is_settled_to(Rule(rule.kinds(), some), word) for some in lists))
                for base in least_bases(rule, word):
                    self.assertEqual(hull(Rule(rule.kinds(), base), word), hull(rule, word))
                    for triple in base:
                        fewer = [some for some in base if some != triple]
                        self.assertNotEqual(hull(Rule(rule.kinds(), fewer), word), hull(rule, word))

    def test_told_by_hulls(self):
        told = {"apart": 0, "joined": 0, "open": 0}
        for place, kinds in enumerate(two_kinds()):
            for number in range(1, 256, 27):
                rule, word = rule_of(kinds, number), ("right", "left")[number % 2]
                lying = settled_within(rule, word)
                for row in rows_of(kinds, 4)[::5] + rows_of(kinds, 5)[::19]:
                    around = try_classes(hull(rule, word), row)
                    inside = [found for some in lying for found in try_classes(Rule(kinds, some), row)]
                    for one, other in product(try_groupings(len(row))[::2], repeat=2):
                        word_told = "open"
                        if not any(one in found and other in found for found in around):
                            word_told = "apart"
                        elif any(one in found and other in found for found in inside):
                            word_told = "joined"
                        told[word_told] += 1
                        self.assertEqual(told_by_hulls(rule, word, row, one, other), word_told)
        self.assertGreater(min(told.values()), 50)
        self.assertEqual(told_by_hulls(other=LEFT, one=LEFT, row=ROW, word="left", rule=NONE), "joined")


class Through(unittest.TestCase):
    def settled_to_both(self):
        found = [rule_of(kinds, number) for place, kinds in enumerate(two_kinds())
                 for number in settled_numbers(place, "right") if number in settled_numbers(place, "left")]
        return found[::7] + [ALL, NONE, both_hull(ODDS)]

    def test_through(self):
        for rule in self.settled_to_both():
            names = rule.kinds().kinds()
            for row in [names[:1], names, names * 2, [names[-1]] * 4, (names * 3)[:5], [names[0]] * 6]:
                for found in try_classes(rule, row):
                    for grouping in found[::3]:
                        chain = through(rule, row, grouping)
                        self.assertTrue(self.try_through(rule, row, found, grouping, chain))
                        self.assertIs(is_through(rule, row, grouping, chain), True)
                        for other in [chain[1:], chain[:-1], chain[::-1], chain + chain, []]:
                            self.assertIs(is_through(rule, row, grouping, other),
                                          self.try_through(rule, row, found, grouping, other))

    def try_through(self, rule, row, found, grouping, chain):
        if not is_chain(rule, row, found[0], found[-1], chain) or any(deed[0] != "right" for deed in chain):
            return False
        return grouping in [chain_end(rule, row, found[0], chain[:many]) for many in range(len(chain) + 1)]

    def test_all_ways_of_four_things(self):
        walks = {0: [("right", 0, 1, 2, 3), ("right", 0, 1, 3, 4), ("right", 1, 2, 3, 4)],
                 4: [("right", 0, 2, 3, 4), ("right", 0, 1, 2, 4)]}
        corners = {1: [(0, 3), (0, 4), (1, 3)], 2: [(0, 4), (1, 3), (1, 4)], 4: [(0, 2), (0, 4), (2, 4)],
                   0: LEFT, 3: [(0, 4), (1, 4), (2, 4)]}
        for corner, grouping in corners.items():
            self.assertIs(is_through(ALL, ROW, grouping, walks[0]), corner != 4)
            self.assertIs(is_through(value=walks[4], grouping=grouping, row=ROW, rule=ALL), corner in (0, 3, 4))
        # There and back leads from the first one to the last one, but not to the right alone.
        self.assertIs(is_through(ALL, ROW, LEFT, [walks[4][0], ("left",) + walks[4][0][1:]] + walks[4]), False)

    def test_any_object(self):
        check_judge(self, lambda value: is_through(ALL, ROW, LEFT, value))
        check_judge(self, lambda value: is_through(NONE, ROW, LEFT, value), [[]])
        chain = through(ALL, ROW, LEFT)
        for wrong in WRONG_FORM:
            self.assertIs(is_through(ALL, ROW, LEFT, [wrong] + chain[1:]), False)
        for value in [tuple(chain), [list(deed) for deed in chain], [chain], chain + [None]]:
            self.assertIs(is_through(ALL, ROW, LEFT, value), False)

    def test_wrong_arguments(self):
        unsettled = [ODDS, mirrored_rule(ODDS), rule_of(even(), 127)]
        self.assertEqual([settled_words(rule) for rule in unsettled], [["left"], ["right"], []])
        good = [("rule", ALL), ("row", list(ROW)), ("grouping", list(LEFT))]
        wrong = [("rule", InvalidRule, WRONG_RULES + unsettled), ("row", InvalidRow, WRONG_ROWS),
                 ("grouping", InvalidGrouping, OF_FOUR)]
        check_wrong(self, through, lambda: list(good), wrong)
        check_wrong(self, is_through, lambda: good + [("value", None)], wrong)
        for some in BAD_GROUPINGS:
            self.assertIs(type(raised(lambda: through(ODDS, ROW, some))), InvalidRule)


class Wrong(unittest.TestCase):
    def test_wrong_arguments(self):
        both = [("rule", ODDS), ("word", "right")]
        wrong = [("rule", InvalidRule, WRONG_RULES), ("word", InvalidWord, WRONG_WORDS)]
        for function in (is_settled_to, opening, hull, reasons, rounds, settled_within, least_bases):
            check_wrong(self, function, lambda: list(both), wrong)
        for function in (is_opening, are_reasons):
            check_wrong(self, function, lambda: both + [("value", None)], wrong)
        check_wrong(self, both_hull, lambda: both[:1], wrong[:1])
        check_wrong(self, force, lambda: both + [("four", list(ROW))], wrong + [("four", InvalidFour, WRONG_FOURS)])
        check_wrong(self, many_settled, lambda: [("kinds", even()), ("word", "left")],
                    [("kinds", InvalidKinds, WRONG_KINDS), wrong[1]])
        check_wrong(self, told_by_hulls,
                    lambda: both + [("row", list(ROW)), ("one", list(LEFT)), ("other", list(LEFT))],
                    wrong + [("row", InvalidRow, WRONG_ROWS), ("one", InvalidGrouping, OF_FOUR),
                             ("other", InvalidGrouping, OF_FOUR)])

    def test_what_was_passed_or_returned_may_change(self):
        rule, four = ODDS, list(ROW)
        before = shown([rule, four])

        def told():
            return [opening(rule, "right"), [four for _, four in reasons(rule, "right")][0], reasons(rule, "right"),
                    force(rule, "right", four), settled_within(rule, "right"), least_bases(rule, "right"),
                    settled_within(rule, "right")[0], least_bases(rule, "right")[0], through(ALL, ROW, LEFT),
                    hull(rule, "right").triples()]
        first = shown([told(), rounds(rule, "right")])
        for made in told():
            made.append(None)
        rounds(rule, "right").clear()
        self.assertEqual(shown([told(), rounds(rule, "right")]), first)
        self.assertEqual(shown([rule, four]), before)


if __name__ == "__main__":
    unittest.main()
