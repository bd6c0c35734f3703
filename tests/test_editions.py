"""Section 18: editions ([98] to [101]), with [2] for them."""

import random
import unittest
from itertools import combinations

from kindshifts.editions import changed, changed_by, join_counts, joining_lots, like_rows, parting_lots
from kindshifts.errors import Apart, InvalidChange, InvalidChanges, InvalidGrouping, InvalidRow, InvalidRule
from kindshifts.kinds import first_kinds
from kindshifts.rules import Rule
from tests.support import (check_wrong, even, every_triple, raised, rows_of, rule_of, seven, shown, some_kinds,
                           try_classes, try_groupings, two_kinds, wrong_for)
from tests.test_groupings import LEFT, OF_FOUR
from tests.test_kinds import WRONG_ROWS
from tests.test_rules import WRONG_RULES

ROW = ["o", "o", "o", "o"]
RIGHT = [(0, 4), (1, 4), (2, 4)]
ONE = [(0, 3), (0, 4), (1, 3)]
NONE = Rule(even(), [])
OOO = ("o", "o", "o")
BAR, LET, THING = ("bar", ("e", "o", "o")), ("let", OOO), ("thing", 1, "e")
# No changes by their form.
NO_CHANGES = wrong_for() + [
    ("let",), ("let", ("e", "o")), ("let", ("e", "o", "o", "e")), ("let", ["e", "o", "o"]), ("let", "eoo"),
    ("let", ("e", "o", "O")), ("let", ("e", "o", None)), ("let", ("e", "o", ("o",))), ("let", OOO, OOO), ["let", OOO],
    ("bars", OOO), ("Let", OOO), (OOO, "let"), ("thing", 1), ("thing", True, "e"), ("thing", -1, "e"),
    ("thing", "1", "e"), ("thing", 1, "E"), ("thing", 1, ""), ("thing", 1, "abcdefghi"), ("thing", 1, ["e"]),
    ("thing", 1, "e", "e"), ["thing", 1, "e"], ("thing", OOO), ("let", 1, "e"), ("thing", "e", 1), (["let"], OOO),
    ("thing", None, "e"), ("let", even()), {"let": OOO}]
# Changes by their form that fit neither the rule of seven triples nor its row.
NO_FITS = [("let", ("e", "e", "e")), ("bar", OOO), ("let", ("o", "o", "x")), ("bar", ("x", "o", "o")),
           ("bar", ("let", "bar", "thing")), ("thing", 4, "e"), ("thing", 0, "o"), ("thing", 1, "x"),
           ("thing", 10 ** 20, "e")]
WRONG_CHANGES = wrong_for([[]]) + [(BAR,), {0: BAR}, BAR, "let", [[BAR]], [BAR, None]]
WRONG_CHANGES += [[BAR, value] for value in NO_CHANGES]


def all_changes(rule, row):
    """All changes that fit."""
    kinds, held = rule.kinds(), rule.triples()
    found = [("bar" if triple in held else "let", triple) for triple in every_triple(kinds)]
    return found + [("thing", place, kind) for place, thing in enumerate(row) for kind in kinds.kinds()
                    if kind != thing]


def try_made(rule, row, changes):
    """What changes make of the triples and the row; None if one does not fit what those ahead of it made."""
    held, there = set(rule.triples()), dict(enumerate(row))
    for change in changes:
        if change[0] == "thing":
            if change[1] not in there or change[2] not in rule.kinds().kinds() or there[change[1]] == change[2]:
                return None
            there[change[1]] = change[2]
        else:
            known = change[1] in every_triple(rule.kinds())
            if not known or (change[1] in held) != (change[0] == "bar"):
                return None
            held = held ^ {change[1]}
    return Rule(rule.kinds(), sorted(held)), list(there.values())


def try_joined(made, one, other):
    return any(one in found and other in found for found in try_classes(*made))


def try_least(rule, row, changes, one, other, wanted):
    """All lists of positions, those kept that are lots and of which no other lot within is wanted, too."""
    lots = []
    for many in range(len(changes) + 1):
        for lot in combinations(range(len(changes)), many):
            made = try_made(rule, row, [changes[place] for place in lot])
            if made is not None and try_joined(made, one, other) == wanted:
                lots.append(lot)
    return sorted(list(lot) for lot in lots if not any(set(some) < set(lot) for some in lots))


def drawn(chance):
    """A rule, a row, and changes of which not all fit."""
    kinds = chance.choice(two_kinds() + some_kinds()[:6])
    rule = Rule(kinds, [triple for triple in every_triple(kinds) if chance.random() < chance.choice((0.3, 0.7))])
    row = [chance.choice(kinds.kinds()) for _ in range(chance.choice((3, 4, 4, 5)))]
    changes, there = [], (rule, row)
    for _ in range(chance.choice((0, 1, 2, 3, 4))):
        change = chance.choice(all_changes(*there))
        changes.append(change)
        there = try_made(*there, [change])
        if chance.random() < 0.3:
            changes.append(chance.choice(changes))
    return rule, row, changes[:4]


class Changed(unittest.TestCase):
    def test_one_change(self):
        for kinds in two_kinds() + some_kinds():
            for number in (0, 1, 37, 255):
                rule, row = rule_of(kinds, number), kinds.kinds()[:1] + kinds.kinds()
                for change in all_changes(rule, row):
                    made = changed(change=change, row=row, rule=rule)
                    self.assertIs(type(made), tuple)
                    self.assertEqual(made, try_made(rule, row, [change]))
        self.assertEqual(changed(seven(), ROW, ("thing", 0, "e"))[1], ["e", "o", "o", "o"])
        self.assertEqual(changed(Rule(first_kinds(["let"]), []), ["let"], ("let", ("let",) * 3))[0].triples(),
                         [("let",) * 3])

    def test_several_changes(self):
        chance = random.Random(107)
        for _ in range(150):
            rule, row, changes = drawn(chance)
            made = try_made(rule, row, changes)
            if made is None:
                error = raised(lambda: changed_by(rule, row, changes))
                self.assertIs(type(error), InvalidChange)
                fits = [try_made(rule, row, changes[:many]) is not None for many in range(len(changes) + 1)]
                self.assertIs(error.value, changes[fits.index(False) - 1])
            else:
                self.assertEqual(changed_by(changes=changes, row=row, rule=rule), made)
        self.assertEqual(changed_by(seven(), ROW, []), (seven(), ROW))
        self.assertEqual(changed_by(NONE, ["o"], [LET, ("bar", OOO), LET])[0].triples(), [OOO])

    def test_the_very_change(self):
        same = [("let", OOO), ("let", OOO)]
        error = raised(lambda: changed_by(seven(), ROW, same))
        self.assertIs(type(error), InvalidChange)
        self.assertIs(error.value, same[1])
        for wrong in NO_FITS:
            changes = [BAR, wrong, ("bar", BAR[1])]
            error = raised(lambda: changed_by(seven(), ROW, changes))
            self.assertIs(type(error), InvalidChange)
            self.assertIs(error.value, wrong)
            # What is no change by its form comes ahead of what does not fit.
            changes = [BAR, wrong, None]
            for function in (changed_by, join_counts):
                error = raised(lambda: function(seven(), ROW, changes))
                self.assertIs(type(error), InvalidChanges)
                self.assertIs(error.value, changes)


class Counts(unittest.TestCase):
    def test_pair_by_pair(self):
        chance = random.Random(109)
        for _ in range(100):
            rule, row, changes = drawn(chance)
            made = try_made(rule, row, changes)
            if made is not None:
                ahead, behind = try_classes(rule, row), try_classes(*made)
                counts = [0, 0, 0]
                for one, other in combinations(try_groupings(len(row)), 2):
                    was, comes = [any(one in found and other in found for found in classes)
                                  for classes in (ahead, behind)]
                    counts = [counts[0] + (was and comes), counts[1] + (was and not comes),
                              counts[2] + (comes and not was)]
                self.assertEqual(join_counts(changes=changes, row=row, rule=rule), tuple(counts))

    def test_edges(self):
        self.assertEqual(shown([join_counts(seven(), row, []) for row in (["e"], ["e", "o"], ["e", "e", "e"])]),
                         "[(0,0,0,), (0,0,0,), (1,0,0,)]")
        # By all triples all 42 groupings of six things are joined.
        pairs = sum(len(found) * (len(found) - 1) // 2 for found in try_classes(seven(), ROW + ["o", "o"]))
        self.assertEqual(join_counts(seven(), ROW + ["o", "o"], [LET]), (pairs, 0, 861 - pairs))
        # What is told is of groupings, whichever things stand there.
        self.assertEqual(join_counts(NONE, ["e", "o", "o"],
                                     [("let", ("e", "e", "e")), ("thing", 1, "e"), ("thing", 2, "e")]),
                         (0, 0, 1))


class Lots(unittest.TestCase):
    def test_against_all_lists_of_positions(self):
        chance = random.Random(113)
        for _ in range(120):
            rule, row, changes = drawn(chance)
            one, other = chance.choice(try_groupings(len(row))), chance.choice(try_groupings(len(row)))
            found = try_least(rule, row, changes, one, other, True)
            self.assertEqual(joining_lots(other=other, one=one, changes=changes, row=row, rule=rule), found)
            if try_joined((rule, row), one, other):
                self.assertEqual(found, [[]])
                self.assertEqual(parting_lots(other=other, one=one, changes=changes, row=row, rule=rule),
                                 try_least(rule, row, changes, one, other, False))
            else:
                error = raised(lambda: parting_lots(rule, row, changes, one, other))
                self.assertIs(type(error), Apart)
                self.assertIs(error.value, other)

    def test_lots_whose_changes_hang_on_others(self):
        # The second change fits behind the first one alone.
        changes = [("let", OOO), ("bar", OOO), ("bar", ("e", "o", "o"))]
        self.assertEqual(parting_lots(seven(), ROW, changes, LEFT, RIGHT), [[2]])
        self.assertEqual(joining_lots(seven(), ROW, changes, LEFT, ONE), [[0]])
        self.assertEqual(joining_lots(NONE, ROW, [("bar", OOO), ("let", OOO)], LEFT, ONE), [[1]])
        self.assertEqual(joining_lots(NONE, ROW, [("bar", OOO)], LEFT, ONE), [])
        self.assertEqual(joining_lots(NONE, ROW, NO_FITS[:4], LEFT, LEFT), [[]])
        self.assertEqual(parting_lots(NONE, ["e"], [], [], []), [])

    def test_lots_stand_as_lists_do(self):
        # From the corner 1 to 2 by one edge, or by the four others.
        changes = [("let", OOO), ("let", ("e", "o", "o")), ("let", ("o", "e", "o")), ("let", ("o", "o", "e"))]
        self.assertEqual(joining_lots(NONE, ROW, changes, ONE, [(0, 4), (1, 3), (1, 4)]), [[0, 1, 3], [2]])
        bars = [("bar", change[1]) for change in changes]
        every = Rule(even(), every_triple(even()))
        self.assertEqual(parting_lots(every, ROW, bars, ONE, [(0, 4), (1, 3), (1, 4)]), [[0, 2], [1, 2], [2, 3]])

    def test_one_lot_may_part_what_two_changes_leave_joined(self):
        changes = [("thing", 2, "e"), ("bar", ("e", "o", "o"))]
        self.assertEqual(parting_lots(seven(), ROW, changes, LEFT, RIGHT),
                         try_least(seven(), ROW, changes, LEFT, RIGHT, False))
        self.assertEqual(joining_lots(seven(), ROW, changes, ONE, RIGHT),
                         try_least(seven(), ROW, changes, ONE, RIGHT, True))

    def test_errors_in_their_order(self):
        good = [("rule", seven()), ("row", list(ROW)), ("changes", [BAR]), ("one", list(LEFT)), ("other", list(RIGHT))]
        wrong = [("rule", InvalidRule, WRONG_RULES), ("row", InvalidRow, WRONG_ROWS),
                 ("changes", InvalidChanges, WRONG_CHANGES), ("one", InvalidGrouping, OF_FOUR),
                 ("other", InvalidGrouping, OF_FOUR)]
        for function in (parting_lots, joining_lots):
            check_wrong(self, function, lambda: list(good), wrong)
            # Changes that fit nowhere are in no lot.
            function(seven(), ROW, NO_FITS[:3], LEFT, RIGHT)
        for changes, one in (([None], LEFT), ([BAR], None)):
            error = raised(lambda: parting_lots(seven(), ROW, changes, one, ONE))
            self.assertNotIsInstance(error, Apart)
        other = list(ONE)
        error = raised(lambda: parting_lots(seven(), ROW, [], LEFT, other))
        self.assertIs(type(error), Apart)
        self.assertIs(error.value, other)


class Rows(unittest.TestCase):
    def test_like_rows(self):
        for kinds in two_kinds() + some_kinds()[:4]:
            for number in (0, 9, 77, 128, 255):
                rule = rule_of(kinds, number)
                for row in rows_of(kinds, 4)[::5]:
                    others = rows_of(kinds, 4)[:16]
                    classes = try_classes(rule, row)
                    self.assertEqual(like_rows(others=others, row=row, rule=rule),
                                     [place for place, other in enumerate(others)
                                      if try_classes(rule, other) == classes])
        self.assertEqual(like_rows(seven(), ROW, []), [])
        self.assertEqual(like_rows(seven(), ["e"], [["o"], ["e"]]), [0, 1])

    def test_wrong_arguments(self):
        others = wrong_for([[]]) + [(ROW,), ROW, [ROW, ROW[:3]], [ROW, tuple(ROW)], [ROW, ROW + ["o"]],
                                    [ROW, ["x"] * 4], [["o"] * 3 + [None]], [[]], {0: ROW}, [[ROW]]]
        row = [("rule", seven()), ("row", list(ROW))]
        wrong = [("rule", InvalidRule, WRONG_RULES), ("row", InvalidRow, WRONG_ROWS)]
        check_wrong(self, like_rows, lambda: row + [("others", [ROW])], wrong + [("others", InvalidRow, others)])
        check_wrong(self, changed, lambda: row + [("change", LET)],
                    wrong + [("change", InvalidChange, NO_CHANGES + NO_FITS)])
        for function in (changed_by, join_counts):
            check_wrong(self, function, lambda: row + [("changes", [LET])],
                        wrong + [("changes", InvalidChanges, WRONG_CHANGES)])

    def test_what_was_passed_or_returned_may_change(self):
        rule, row, changes = seven(), list(ROW), [BAR, LET]
        before = shown([rule, row, changes])

        def told():
            return [changed(rule, row, BAR)[1], changed(rule, row, THING)[1], changed_by(rule, row, changes)[1],
                    changed_by(rule, row, [])[1], parting_lots(rule, row, changes, LEFT, RIGHT),
                    parting_lots(rule, row, changes, LEFT, RIGHT)[0], joining_lots(rule, row, changes, LEFT, LEFT),
                    joining_lots(rule, row, changes, LEFT, LEFT)[0], like_rows(rule, row, [row]),
                    changed(rule, row, BAR)[0].triples(), changed(rule, row, THING)[0].triples()]
        first = shown(told())
        for made in told():
            made.append(None)
        self.assertEqual(shown(told()), first)
        self.assertEqual(shown([rule, row, changes]), before)


if __name__ == "__main__":
    unittest.main()
