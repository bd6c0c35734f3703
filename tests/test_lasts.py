"""Section 10: last groupings of EVERY row ([53] to [58]), with [2] for them."""

import random
import unittest
from itertools import product

from kindshifts.combing import is_last, last_ones, left_comb, right_comb
from kindshifts.errors import (InvalidBlock, InvalidComb, InvalidCount, InvalidGrouping, InvalidKind, InvalidRow,
                               Unsettled)
from kindshifts.groupings import grouping_at, left_sum, many_groupings
from kindshifts.lasts import (chain_by_lasts, exchanged_last, joined_around, joined_by_lasts, joined_keeping,
                              joined_within, last_of, parting_block, put_together, still_joined)
from kindshifts.rules import Rule, chain_end, is_chain
from tests.support import (check_unsettled, check_wrong, even, every_triple, lesser, mixed, raised, rows_of, rule_of,
                           settled_combs, shown, try_along, try_blocks, try_classes, try_groupings, try_kind, try_last,
                           try_let, two_kinds, unsettled, wrong_for)
from tests.test_combing import WRONG_COMBS
from tests.test_groupings import BAD_BLOCKS, LEFT, OF_FOUR, PAIRS
from tests.test_kinds import NOT_KINDS, WRONG_ROWS

ROW = ["o", "o", "o", "o"]
RIGHT = [(0, 4), (1, 4), (2, 4)]
ALL = right_comb(Rule(even(), every_triple(even())))
BUT = right_comb(Rule(lesser(), [triple for triple in every_triple(lesser()) if triple != ("a", "a", "b")]))
WRONG_PLACES = wrong_for([0, 1]) + [4, 5, -5, "3", [3], (3,), 10 ** 20]
NO_KINDS = NOT_KINDS + ["right", "left", "a", "eo", even()]


def asked():
    """Settled combs with rows of one to six things."""
    chance, found = random.Random(29), []
    for comb in settled_combs():
        names = comb.rule().kinds().kinds()
        found += [(comb, [chance.choice(names) for _ in range(size)]) for size in (1, 2, 3, 4, 5)]
    return found + [(mixed(), ROW), (mixed(), ["o"] * 6), (BUT, ["a", "a", "b", "a"]), (BUT, ["a", "a", "b", "a", "b"])]


class LastOnes(unittest.TestCase):
    def test_last_of(self):
        for comb, row in asked():
            graph = try_along(comb, row)
            for found in try_classes(comb.rule(), row):
                last = try_last(graph, found)
                for grouping in found:
                    self.assertEqual(last_of(comb, row, grouping), last)

    def test_the_last_one_by_its_place_and_its_sum(self):
        for kinds in two_kinds():
            for number in (1, 15, 51, 85, 129, 170, 252, 255):
                for word, comb in (("right", right_comb), ("left", left_comb)):
                    made = comb(rule_of(kinds, number))
                    if raised(lambda: last_of(made, kinds.kinds(), [(0, 2)])) is None:
                        self.ask_places(word, made, kinds.kinds())

    def ask_places(self, word, comb, names):
        for row in [[names[0]] * 5, [names[-1]] * 5, [names[0], names[-1]] * 2, [names[-1], names[-1], names[0]]]:
            for found in try_classes(comb.rule(), row):
                sums = [left_sum(grouping) for grouping in found]
                best, place = (min(sums), -1) if word == "right" else (max(sums), 0)
                self.assertEqual(last_of(comb, row, found[0]), found[place])
                self.assertEqual([many for many, total in enumerate(sums) if total == best], [place % len(found)])

    def test_joined_and_parting_blocks(self):
        for comb, row in asked()[::3] + asked()[-4:]:
            graph = try_along(comb, row)
            lasts = {tuple(some): try_last(graph, found) for found in try_classes(comb.rule(), row) for some in found}
            for one, other in product(list(lasts)[::3], repeat=2):
                ours, theirs = lasts[one], lasts[other]
                self.assertIs(joined_by_lasts(comb, row, list(one), list(other)), ours == theirs)
                lone = [block for block in ours + theirs if not (block in ours and block in theirs)]
                lone = sorted(lone, key=lambda block: (block[0] - block[1], block))
                self.assertEqual(parting_block(comb, row, list(one), list(other)), lone[0] if lone else None)
                self.ask_chain(comb, row, list(one), list(other), ours, ours == theirs)

    def ask_chain(self, comb, row, one, other, last, joined):
        chain = chain_by_lasts(comb, row, one, other)
        self.assertIs(chain is not None, joined)
        if joined:
            self.assertIs(is_chain(comb.rule(), row, one, other, chain), True)
            passed = [chain_end(comb.rule(), row, one, chain[:many]) for many in range(len(chain) + 1)]
            self.assertIn(last, passed)

    def test_one_thing_and_two(self):
        for comb in (mixed(), ALL, right_comb(Rule(even(), []))):
            for row, only in ((["o"], []), (["e", "o"], [(0, 2)])):
                self.assertEqual(last_of(comb, row, only), only)
                self.assertIs(joined_by_lasts(comb, row, only, only), True)
                self.assertIsNone(parting_block(comb, row, only, only))
                self.assertEqual(chain_by_lasts(comb, row, only, only), [])
        for grouping in try_groupings(5):
            self.assertEqual(last_of(right_comb(Rule(even(), [])), ["o"] * 5, grouping), grouping)
        self.assertEqual(chain_by_lasts(ALL, ROW, RIGHT, RIGHT), [])

    def test_rows_of_twelve_things(self):
        chance = random.Random(31)
        for comb in settled_combs()[::4]:
            row = [chance.choice(comb.rule().kinds().kinds()) for _ in range(12)]
            one, other = [grouping_at(12, chance.randrange(many_groupings(12))) for _ in range(2)]
            last = last_of(comb, row, one)
            self.assertIs(is_last(comb, row, last), True)
            self.assertIs(joined_by_lasts(comb, row, one, last), True)
            self.assertIs(is_chain(comb.rule(), row, one, last, chain_by_lasts(comb, row, one, last)), True)
            self.assertIs(joined_by_lasts(comb, row, one, other), last == last_of(comb, row, other))

    def test_rows_of_six_things(self):
        for comb in (mixed(), BUT):
            for row in rows_of(comb.rule().kinds(), 6)[::9]:
                for grouping in try_groupings(6)[::7]:
                    self.assertEqual([last_of(comb, row, grouping)], last_ones(comb, row, grouping))


class Parts(unittest.TestCase):
    def test_put_together(self):
        for comb, row in asked():
            for split in range(1, len(row)):
                for one in try_groupings(split)[::2]:
                    for other in try_groupings(len(row) - split)[::2]:
                        whole = sorted(one + [(0, len(row))] + [(first + split, end + split) for first, end in other])
                        self.assertEqual(put_together(comb, row, one, other), last_of(comb, row, whole))
        self.assertEqual(put_together(other=[(0, 2)], one=[(0, 2)], row=ROW, comb=mixed()), RIGHT)
        self.assertEqual(put_together(mixed(), ["e", "o"], [], []), [(0, 2)])

    def test_exchanged(self):
        for comb in (mixed(), BUT, ALL):
            names = comb.rule().kinds().kinds()
            for row in rows_of(comb.rule().kinds(), 4)[::7]:
                for place, kind in product(range(4), names):
                    other = [kind if at == place else thing for at, thing in enumerate(row)]
                    for one, two in product(try_groupings(4), repeat=2):
                        self.assertEqual(exchanged_last(comb, row, place, kind, one), last_of(comb, other, one))
                        self.assertIs(still_joined(comb, row, place, kind, one, two),
                                      joined_by_lasts(comb, other, one, two))

    def test_within_around_and_keeping(self):
        for comb, row in asked()[::2] + asked()[-4:]:
            if len(row) > 2:
                tried = try_groupings(len(row))
                for one, other in product(tried[::2], tried[::3]):
                    for block in [block for block in one if block in other]:
                        self.ask_block(comb, row, block, one, other)

    def ask_block(self, comb, row, block, one, other):
        rule, (first, end) = comb.rule(), block
        inner = [[(a - first, b - first) for a, b in some if first <= a and b <= end] for some in (one, other)]
        inside = self.try_joined(rule, row[first:end], *inner)
        self.assertIs(joined_within(comb, row, block, one, other), inside)
        shorter = row[:first] + [try_kind(rule.kinds(), row[first:end])] + row[end:]
        outer = [sorted((self.moved(a, block), self.moved(b, block)) for a, b in some
                        if not (first <= a and b <= end)) for some in (one, other)]
        outside = self.try_joined(rule, shorter, *outer)
        self.assertIs(joined_around(comb, row, block, one, other), outside)
        graph = try_let(rule, row)
        kept = {here: [there for _, there in steps if block in there] for here, steps in graph.items() if block in here}
        seen, edge = {tuple(one)}, [tuple(one)]
        for here in edge:
            new = [there for there in kept[here] if there not in seen]
            seen.update(new)
            edge.extend(new)
        self.assertIs(joined_keeping(comb, row, block, one, other), tuple(other) in seen)

    def moved(self, place, block):
        return place if place <= block[0] else place - (block[1] - block[0] - 1)

    def try_joined(self, rule, row, one, other):
        return any(one in found and other in found for found in try_classes(rule, row))

    def test_joined_but_not_within(self):
        row, first, other = ["a", "a", "b", "a"], LEFT, [(0, 3), (0, 4), (1, 3)]
        told = [function(comb=BUT, row=row, block=(0, 3), one=first, other=other)
                for function in (joined_within, joined_around, joined_keeping)]
        self.assertEqual(told, [False, True, False])
        self.assertIs(joined_by_lasts(BUT, row, first, other), True)
        for function in (joined_within, joined_around, joined_keeping):
            self.assertIs(function(ALL, ROW, (0, 4), LEFT, LEFT), True)


class Wrong(unittest.TestCase):
    def ask(self, function, good, wrong):
        check_wrong(self, function, lambda: list(good), wrong)
        check_unsettled(self, function, lambda: list(good), wrong)

    def test_wrong_arguments(self):
        good = [("comb", mixed()), ("row", list(ROW))]
        wrong = [("comb", InvalidComb, WRONG_COMBS), ("row", InvalidRow, WRONG_ROWS)]
        self.ask(last_of, good + [("grouping", list(LEFT))], wrong + [("grouping", InvalidGrouping, OF_FOUR)])
        both = [("one", list(LEFT)), ("other", list(PAIRS))]
        wrong_both = [("one", InvalidGrouping, OF_FOUR), ("other", InvalidGrouping, OF_FOUR)]
        for function in (joined_by_lasts, parting_block, chain_by_lasts):
            self.ask(function, good + both, wrong + wrong_both)
        exchange = good + [("place", 1), ("kind", "e")]
        wrong_exchange = wrong + [("place", InvalidCount, WRONG_PLACES), ("kind", InvalidKind, NO_KINDS)]
        self.ask(exchanged_last, exchange + [("grouping", list(LEFT))],
                 wrong_exchange + [("grouping", InvalidGrouping, OF_FOUR)])
        self.ask(still_joined, exchange + both, wrong_exchange + wrong_both)

    def test_wrong_groupings_that_are_put_together(self):
        wrong = [value for value in OF_FOUR if value not in ([(0, 2)], [(0, 2), (0, 3)])]
        self.ask(put_together, [("comb", mixed()), ("row", list(ROW)), ("one", [(0, 2)]), ("other", [(0, 2)])],
                 [("comb", InvalidComb, WRONG_COMBS), ("row", InvalidRow, WRONG_ROWS),
                  ("one", InvalidGrouping, [value for value in wrong if value != []] + [LEFT]),
                  ("other", InvalidGrouping, wrong + [[], LEFT, [(0, 2), (0, 3)]])])
        for one in ([], LEFT):
            error = raised(lambda: put_together(mixed(), ["e"], one, []))
            self.assertIs(type(error), InvalidGrouping)
            self.assertIs(error.value, one)

    def test_wrong_blocks_come_behind_the_groupings(self):
        rest = [("comb", mixed()), ("row", list(ROW)), ("one", list(LEFT)), ("other", list(PAIRS)), ("block", (0, 2))]
        wrong = [("comb", InvalidComb, WRONG_COMBS), ("row", InvalidRow, WRONG_ROWS),
                 ("one", InvalidGrouping, OF_FOUR), ("other", InvalidGrouping, OF_FOUR),
                 ("block", InvalidBlock, [value for value in BAD_BLOCKS if value != (0, 2)] + [(0, 3), (2, 4)])]
        for function in (joined_within, joined_around, joined_keeping):
            # In the order in which the errors are looked for, which is not that of the parameters.
            self.ask(lambda comb, row, one, other, block: function(comb, row, block, one, other), rest, wrong)
            self.assertIs(function(block=(0, 4), other=LEFT, one=LEFT, row=ROW, comb=ALL), True)
        for block in try_blocks(4):
            shared = block in LEFT and block in PAIRS
            error = raised(lambda: joined_within(mixed(), ROW, block, LEFT, PAIRS))
            self.assertIs(type(error), type(None) if shared else InvalidBlock)

    def test_unsettled_comes_behind_all_others(self):
        comb = unsettled()
        error = raised(lambda: last_of(grouping=LEFT, row=ROW, comb=comb))
        self.assertIs(type(error), Unsettled)
        self.assertIs(error.value, comb)
        self.assertIs(type(raised(lambda: last_of(comb, ["e"], [(0, 2)]))), InvalidGrouping)
        self.assertIs(type(raised(lambda: last_of(comb, ["e"], []))), Unsettled)

    def test_what_was_passed_or_returned_may_change(self):
        comb, row, grouping = mixed(), list(ROW), list(RIGHT)
        before = shown([comb, row, grouping])

        def told():
            return [last_of(comb, row, grouping), last_of(comb, row, LEFT), chain_by_lasts(comb, row, LEFT, grouping),
                    chain_by_lasts(comb, row, grouping, grouping), put_together(comb, row, [(0, 2)], [(0, 2)]),
                    exchanged_last(comb, row, 0, "e", grouping), exchanged_last(comb, row, 0, "o", grouping)]
        first = shown(told())
        for made in told():
            made.append(None)
        self.assertEqual(shown(told()), first)
        self.assertEqual(shown([comb, row, grouping]), before)
        # What is told of one comb stays while another one is asked.
        once = last_of(comb, row, LEFT)
        last_of(ALL, row, PAIRS)
        self.assertEqual(last_of(comb, row, LEFT), once)


if __name__ == "__main__":
    unittest.main()
