"""Section 7: combing ([37] to [42]), with [2] for it."""

import random
import unittest
from itertools import product

from kindshifts.combing import (Comb, all_lasts, are_arrows, combing, is_combing, is_last, is_meeting, last_ones,
                                left_comb, longest_combing, many_combings, meeting, open_deeds, right_comb,
                                shortest_combing)
from kindshifts.ending import are_layers, weight_of
from kindshifts.errors import (InvalidArrows, InvalidComb, InvalidGrouping, InvalidLayers, InvalidRow, InvalidRule)
from kindshifts.groupings import grouping_at, left_tower, many_groupings, right_tower
from kindshifts.kinds import Kinds, first_kinds
from kindshifts.rules import Rule
from tests.support import (EVEN_TABLE, check_judge, check_wrong, even, every_triple, mixed, mixed_combs, pool, raised,
                           rows_of, seven, shown, some_combs, some_kinds, try_along, try_fewest, try_groupings,
                           unsettled, wrong_for)
from tests.test_ending import FLAT, LAYER, NONE, PLAIN, TWO, WAYS, WRONG_LAYERS, WRONG_WAYS
from tests.test_groupings import BAD_GROUPINGS, LEFT, OF_FOUR, PAIRS
from tests.test_kinds import WRONG_ROWS
from tests.test_rules import WRONG_FORM, WRONG_RULES

ROW = ["o", "o", "o", "o"]
RIGHT = [(0, 4), (1, 4), (2, 4)]
ALL = Rule(even(), every_triple(even()))
WRONG_COMBS = [value for value in wrong_for() if not isinstance(value, Comb)] + [
    ALL, (TWO, WAYS, [LAYER]), [mixed()], {0: mixed()}, (mixed(),), {}]


def asked():
    """Combs with rows of one to five things of their kinds."""
    chance, found = random.Random(17), []
    for comb in some_combs() + mixed_combs(25):
        names = comb.rule().kinds().kinds()
        found += [(comb, [chance.choice(names) for _ in range(size)]) for size in (1, 2, 3, 4, 4, 5)]
    return found


def try_combings(graph, here):
    """All chains along the arrows from a grouping to a last one, with what they lead to."""
    if not graph[here]:
        return [([], here)]
    return [([deed] + chain, last) for deed, there in graph[here] for chain, last in try_combings(graph, there)]


class Arrows(unittest.TestCase):
    def test_are_arrows_of_all_words(self):
        for words in product(["right", "left", "up", None], repeat=2):
            value = dict(zip(TWO.triples(), words))
            self.assertIs(are_arrows(TWO, value), set(words) <= {"right", "left"})
            self.assertIs(are_arrows(TWO, {triple: value[triple] for triple in reversed(value)}),
                          set(words) <= {"right", "left"})
        self.assertIs(are_arrows(value={}, rule=NONE), True)
        self.assertIs(are_arrows(NONE, WAYS), False)

    def test_any_object(self):
        check_judge(self, lambda value: are_arrows(TWO, value))
        check_judge(self, lambda value: are_arrows(NONE, value), [{}])
        for value in WRONG_WAYS:
            self.assertIs(are_arrows(TWO, value), False)
        check_wrong(self, are_arrows, lambda: [("rule", TWO), ("value", None)], [("rule", InvalidRule, WRONG_RULES)])


class Combs(unittest.TestCase):
    def test_a_comb_tells_what_it_is_made_of(self):
        comb = Comb(layers=[PLAIN, LAYER], arrows=WAYS, rule=TWO)
        self.assertEqual((comb.rule(), comb.arrows(), comb.layers()), (TWO, WAYS, [PLAIN, LAYER]))
        turned = Comb(TWO, {triple: WAYS[triple] for triple in reversed(WAYS)},
                      [{pair: layer[pair] for pair in reversed(layer)} for layer in (PLAIN, LAYER)])
        self.assertEqual(turned, comb)
        self.assertEqual(shown(turned), shown(comb))
        self.assertEqual((list(turned.arrows()), list(turned.layers()[1])), (TWO.triples(), sorted(LAYER)))
        self.assertEqual(Comb(NONE, {}, []).layers(), [])
        for comb in some_combs() + mixed_combs(25):
            self.assertEqual(Comb(comb.rule(), comb.arrows(), comb.layers()), comb)
            self.assertIs(are_layers(comb.rule(), comb.arrows(), comb.layers()), True)

    def test_equal_exactly_if_all_three_are(self):
        combs = some_combs() + [Comb(TWO, WAYS, [LAYER]), Comb(TWO, WAYS, [PLAIN, LAYER]), Comb(NONE, {}, []),
                                Comb(TWO, WAYS, [LAYER, PLAIN]), Comb(NONE, {}, [FLAT]), Comb(NONE, {}, [FLAT, FLAT]),
                                Comb(TWO, WAYS, [{**LAYER, ("o", "o"): (1, 0, 0)}]),
                                # The same triples, arrows and layers, but another table.
                                Comb(Rule(first_kinds(["e", "o"]), []), {}, [FLAT]),
                                Comb(Rule(first_kinds(["e", "o"]), []), {}, [])]
        for one in combs:
            for other in combs:
                same = shown(one) == shown(other)
                self.assertIs(one == other, same)
                self.assertIs(one != other, not same)
        for other in pool() + [even(), TWO, (TWO, WAYS, [LAYER])]:
            self.assertIs(combs[0] == other, False)
            self.assertIs(other == combs[0], False)
        self.assertIs(mixed() == mixed(), True)

    def test_wrong_arguments(self):
        layers = [value for value in wrong_for() if value != []] + [
            [], [FLAT], [PLAIN], (LAYER,), LAYER, [[LAYER]], [LAYER, None], [FLAT, PLAIN]]
        layers += [[LAYER, wrong] for wrong in WRONG_LAYERS]
        check_wrong(self, Comb, lambda: [("rule", TWO), ("arrows", dict(WAYS)), ("layers", [dict(LAYER)])],
                    [("rule", InvalidRule, WRONG_RULES), ("arrows", InvalidArrows, WRONG_WAYS),
                     ("layers", InvalidLayers, layers)])
        for function in (right_comb, left_comb):
            check_wrong(self, function, lambda: [("rule", TWO)], [("rule", InvalidRule, WRONG_RULES)])

    def test_right_and_left(self):
        for kinds in some_kinds():
            for rule in (Rule(kinds, every_triple(kinds)[::2]), Rule(kinds, [])):
                for made, word, unit in ((right_comb, "right", (0, 1, 0)), (left_comb, "left", (0, 0, 1))):
                    comb = made(rule=rule)
                    self.assertEqual(comb.rule(), rule)
                    self.assertEqual(comb.arrows(), {triple: word for triple in rule.triples()})
                    self.assertEqual(comb.layers(), [{pair: unit for pair in product(kinds.kinds(), repeat=2)}])
                    self.assertEqual(list(comb.layers()[0]), sorted(comb.layers()[0]))

    def test_what_was_passed_or_returned_may_change(self):
        table, ways, layer = dict(EVEN_TABLE), dict(WAYS), dict(LAYER)
        layers = [layer]
        comb = Comb(Rule(Kinds(table), TWO.triples()), ways, layers)
        again = Comb(TWO, WAYS, [LAYER])
        ways.clear()
        layer.clear()
        layers.clear()
        table.clear()
        self.assertEqual(comb, again)
        comb.arrows().clear()
        comb.layers()[0].clear()
        comb.layers().clear()
        comb.rule().triples().clear()
        self.assertEqual(comb, again)
        self.assertEqual(shown(comb), shown(again))


class Lasts(unittest.TestCase):
    def test_open_deeds_and_last_groupings(self):
        for comb, row in asked():
            graph = try_along(comb, row)
            for here in graph:
                deeds = [deed for deed, _ in graph[here]]
                self.assertEqual(open_deeds(comb, row, list(here)), sorted(deeds))
                self.assertIs(is_last(comb, row, list(here)), not deeds)
            self.assertEqual(all_lasts(comb, row), sorted(list(here) for here in graph if not graph[here]))

    def test_one_thing_and_two_and_no_triples(self):
        for comb in (mixed(), unsettled()):
            for row, only in ((["o"], []), (["o", "o"], [(0, 2)])):
                self.assertEqual((open_deeds(comb, row, only), is_last(comb, row, only)), ([], True))
                self.assertEqual((all_lasts(comb, row), last_ones(comb, row, only)), ([only], [only]))
                self.assertEqual((combing(comb, row, only), many_combings(comb, row, only)), ([], 1))
                self.assertEqual((shortest_combing(comb, row, only), longest_combing(comb, row, only)), (0, 0))
                self.assertEqual(meeting(comb, row, only, only), only)
        bare = right_comb(NONE)
        for grouping in try_groupings(5):
            row = ["e", "o", "o", "o", "e"]
            self.assertIs(is_last(bare, row, grouping), True)
            self.assertEqual(last_ones(bare, row, grouping), [grouping])
            self.assertEqual(combing(bare, row, grouping), [])
        self.assertEqual(all_lasts(bare, ["o"] * 5), try_groupings(5))

    def test_combings(self):
        for comb, row in asked():
            graph = try_along(comb, row)
            for here in list(graph)[::3]:
                self.ask_combings(comb, row, list(here), try_combings(graph, here))

    def ask_combings(self, comb, row, grouping, found):
        lengths = [len(chain) for chain, _ in found]
        chain = combing(comb, row, grouping)
        self.assertIn(chain, [some for some, _ in found])
        self.assertIs(is_combing(comb, row, grouping, chain), True)
        self.assertEqual(last_ones(comb, row, grouping), sorted(list(last) for last in {last for _, last in found}))
        self.assertEqual(shortest_combing(comb, row, grouping), min(lengths))
        self.assertEqual(longest_combing(comb, row, grouping), max(lengths))
        self.assertEqual(many_combings(comb, row, grouping), len(found))
        for chain, _ in found[:10]:
            self.assertIs(is_combing(comb, row, grouping, chain), True)
            if chain:
                self.assertIs(is_combing(comb, row, grouping, chain[:-1]), False)
                self.assertIs(is_combing(comb, row, grouping, chain[1:]), False)

    def test_is_combing_of_any_object(self):
        comb = right_comb(ALL)
        good = combing(comb, ROW, LEFT)
        check_judge(self, lambda value: is_combing(comb, ROW, LEFT, value))
        check_judge(self, lambda value: is_combing(comb, ROW, RIGHT, value), [[]])
        for value in [tuple(good), good + [("left", 0, 1, 2, 4)], [list(deed) for deed in good], good + [None], [good]]:
            self.assertIs(is_combing(comb, ROW, LEFT, value), False)
        for wrong in WRONG_FORM:
            self.assertIs(is_combing(comb, ROW, LEFT, [wrong] + good[1:]), False)
        # There and back again is a chain that ends last, but not along the arrows.
        there = [("right", 0, 1, 2, 3), ("left", 0, 1, 2, 3)]
        self.assertIs(is_combing(comb, ROW, LEFT, there + good), False)
        self.assertIs(is_combing(value=good, grouping=LEFT, row=ROW, comb=comb), True)

    def test_rows_of_twelve_things(self):
        chance = random.Random(23)
        for comb in [right_comb(ALL), left_comb(ALL)] + some_combs()[:6] + mixed_combs(25)[:12]:
            names = comb.rule().kinds().kinds()
            row = [chance.choice(names) for _ in range(12)]
            grouping = grouping_at(12, chance.randrange(many_groupings(12)))
            chain = combing(comb, row, grouping)
            self.assertIs(is_combing(comb, row, grouping, chain), True)
            self.assertIs(is_last(comb, row, grouping), not chain)
        self.assertIs(is_last(right_comb(ALL), ["o"] * 12, right_tower(12)), True)
        self.assertEqual(len(combing(right_comb(ALL), ["o"] * 12, left_tower(12))), 55)

    def test_rows_of_nine_things(self):
        comb, row = right_comb(ALL), ["o", "e"] * 4 + ["o"]
        self.assertEqual(last_ones(comb, row, left_tower(9)), [right_tower(9)])
        self.assertEqual(all_lasts(comb, row), [right_tower(9)])
        self.assertEqual(shortest_combing(comb, row, left_tower(9)), 7)
        self.assertEqual(longest_combing(comb, row, left_tower(9)), 28)
        # The maximal chains of the Tamari orders, as others have counted them.
        self.assertEqual([many_combings(comb, row[:size], left_tower(size)) for size in range(1, 10)],
                         [1, 1, 1, 2, 9, 98, 2981, 340549, 216569887])

    def test_each_deed_makes_the_first_weight_that_changes_less(self):
        for comb, row in asked()[::3]:
            for here, steps in try_along(comb, row).items():
                for _, there in steps:
                    before, after = [[weight_of(comb.rule(), layer, row, list(some)) for layer in comb.layers()]
                                     for some in (here, there)]
                    self.assertLess(after, before)

    def test_wrong_arguments(self):
        good = [("comb", mixed()), ("row", list(ROW)), ("grouping", list(LEFT))]
        wrong = [("comb", InvalidComb, WRONG_COMBS), ("row", InvalidRow, WRONG_ROWS),
                 ("grouping", InvalidGrouping, OF_FOUR)]
        for function in (open_deeds, is_last, combing, last_ones, shortest_combing, longest_combing, many_combings):
            check_wrong(self, function, lambda: list(good), wrong)
        check_wrong(self, is_combing, lambda: good + [("value", None)], wrong)
        check_wrong(self, all_lasts, lambda: good[:2], wrong[:2])


class Meetings(unittest.TestCase):
    def test_meetings_are_those_found_by_trial(self):
        none = 0
        for comb, row in asked():
            graph = try_along(comb, row)
            found = {here: try_fewest(graph, here) for here in list(graph)[::4]}
            for one, other in product(found, repeat=2):
                sums = {here: found[one][here][0] + found[other][here][0]
                        for here in found[one] if here in found[other]}
                good = [list(here) for here in sums if sums[here] == min(sums.values())]
                told = meeting(comb, row, list(one), list(other))
                none += told is None
                self.assertTrue(told in good if good else told is None)
                for grouping in try_groupings(len(row)):
                    self.assertIs(is_meeting(comb, row, list(one), list(other), grouping), grouping in good)
                self.assertIs(is_meeting(comb, row, list(one), list(other), None), False)
        self.assertGreater(none, 20)

    def test_any_object(self):
        check_judge(self, lambda value: is_meeting(right_comb(ALL), ROW, LEFT, PAIRS, value))
        check_judge(self, lambda value: is_meeting(right_comb(NONE), ROW, LEFT, PAIRS, value))
        check_judge(self, lambda value: is_meeting(right_comb(ALL), ["o"], [], [], value), [[]])
        self.assertIs(is_meeting(right_comb(ALL), ROW, LEFT, PAIRS, PAIRS), True)
        self.assertIs(is_meeting(value=RIGHT, other=PAIRS, one=LEFT, row=ROW, comb=right_comb(ALL)), False)
        self.assertIsNone(meeting(right_comb(NONE), ROW, LEFT, PAIRS))
        for wrong in BAD_GROUPINGS:
            self.assertIs(is_meeting(right_comb(ALL), ROW, LEFT, LEFT, wrong), False)

    def test_wrong_arguments(self):
        good = [("comb", mixed()), ("row", list(ROW)), ("one", list(LEFT)), ("other", list(PAIRS))]
        wrong = [("comb", InvalidComb, WRONG_COMBS), ("row", InvalidRow, WRONG_ROWS),
                 ("one", InvalidGrouping, OF_FOUR), ("other", InvalidGrouping, OF_FOUR)]
        check_wrong(self, meeting, lambda: list(good), wrong)
        check_wrong(self, is_meeting, lambda: good + [("value", None)], wrong)

    def test_what_was_passed_or_returned_may_change(self):
        comb, row, grouping = mixed(), list(ROW), list(RIGHT)
        before = shown([comb, row, grouping])

        def told():
            return [open_deeds(comb, row, LEFT), combing(comb, row, LEFT), combing(comb, row, grouping),
                    last_ones(comb, row, grouping), all_lasts(comb, row), meeting(comb, row, grouping, grouping),
                    meeting(comb, row, LEFT, grouping)]
        first = shown(told())
        for made in told():
            for inner in made:
                if isinstance(inner, list):
                    inner.append(None)
            made.append(None)
        self.assertEqual(shown(told()), first)
        self.assertEqual(shown([comb, row, grouping]), before)

    def test_rows_of_the_right_kinds(self):
        for row in rows_of(even(), 3):
            self.assertIsNone(raised(lambda: all_lasts(mixed(), row)))
        self.assertIs(type(raised(lambda: all_lasts(mixed(), ["a", "b"]))), InvalidRow)
        self.assertIs(type(raised(lambda: all_lasts(right_comb(seven()), []))), InvalidRow)


if __name__ == "__main__":
    unittest.main()
