"""Section 8: whether combing ends ([43] to [46]), with [2] for it."""

import random
import unittest
from itertools import product

from kindshifts.ending import (are_layers, balanced_lot, is_balanced_lot, is_round, layers_of, round_of, weight_of)
from kindshifts.errors import (InvalidArrows, InvalidCount, InvalidGrouping, InvalidNumbers, InvalidRow, InvalidRule)
from kindshifts.kinds import first_kinds
from kindshifts.rules import Rule
from tests.support import (check_judge, check_wrong, even, every_triple, lesser, raised, rows_of, rule_of, seven, shown,
                           some_kinds, try_groupings, try_kind, try_parts, try_steps, try_triple, two_kinds, wrong_for)
from tests.test_groupings import LEFT, OF_FOUR
from tests.test_kinds import WRONG_ROWS
from tests.test_rules import WRONG_RULES

TWO = Rule(even(), [("e", "e", "e"), ("e", "o", "e")])
WAYS = {("e", "e", "e"): "right", ("e", "o", "e"): "left"}
PAIRS = list(product("eo", "eo"))
LAYER = {("e", "e"): (0, 1, 0), ("e", "o"): (0, 0, 1), ("o", "e"): (0, 0, 1), ("o", "o"): (0, 0, 0)}
PLAIN = {pair: (1, 0, 0) for pair in PAIRS}
FLAT = {pair: (0, 0, 0) for pair in PAIRS}
NONE = Rule(even(), [])
ODD = Rule(even(), [("e", "o", "o"), ("o", "e", "o"), ("o", "o", "e"), ("o", "o", "o")])
ABOUT = {("e", "o", "o"): "left", ("o", "e", "o"): "right", ("o", "o", "e"): "left", ("o", "o", "o"): "right"}
LOT = {("e", "o", "o"): (1, 2, 1, 1), ("o", "e", "o"): (1, 1, 2, 1), ("o", "o", "e"): (1, 1, 1, 2),
       ("o", "o", "o"): (2, 2, 2, 2)}
ROUND = (["o", "o", "o", "o"], LEFT, [("right", 0, 1, 2, 3), ("right", 0, 1, 3, 4), ("right", 1, 2, 3, 4),
                                      ("left", 0, 1, 2, 4), ("left", 0, 2, 3, 4)])
WRONG_WAYS = wrong_for() + [
    {("e", "e", "e"): "right"}, {("e", "e", "e"): "right", ("e", "o", "e"): "up"},
    {("e", "e", "e"): "right", ("e", "o", "e"): None}, {("e", "e", "e"): "right", ("e", "o", "e"): ["left"]},
    {("e", "e", "e"): "right", ("e", "o", "e"): "left", ("o", "o", "o"): "left"},
    {("e", "e", "e"): "right", "eoe": "left"}, {("e", "e", "e"): "right", ("e", "o", "o"): "left"},
    [(("e", "e", "e"), "right"), (("e", "o", "e"), "left")], {("e", "e", "e"): "right", 0: even()}]
WRONG_LAYERS = wrong_for() + [
    [], [LAYER], {**LAYER, ("o", "o"): (0, 0)}, {**LAYER, ("o", "o"): [0, 0, 0]}, {**LAYER, ("o", "o"): (0, 0, 0, 0)},
    {**LAYER, ("o", "o"): (0, 0, True)}, {**LAYER, ("o", "o"): (False, 0, 0)}, {**LAYER, ("o", "o"): (0, None, 0)},
    {**LAYER, ("o", "o"): (0, "1", 0)}, {**LAYER, ("o", "x"): (0, 0, 0)}, {**LAYER, "oo": (0, 0, 0)},
    {pair: LAYER[pair] for pair in PAIRS[:3]}, {**{pair: LAYER[pair] for pair in PAIRS[:3]}, ("o", "x"): (0, 0, 0)},
    {**{pair: LAYER[pair] for pair in PAIRS[:3]}, ("o", "o", "o"): (0, 0, 0)}, tuple(LAYER.items()),
    {**LAYER, ("o", "o"): 0}, {**LAYER, ("o", "o"): even()}]


def try_change(kinds, triple, word, layer, counts):
    """What a deed with so many things in A, B and C changes, by the words of [43]."""
    (a, b, c), (x, y, z) = triple, counts
    left = [((a, b), x, y), ((kinds.put(a, b), c), x + y, z)]
    right = [((b, c), y, z), ((a, kinds.put(b, c)), x, y + z)]
    weights = [sum(layer[pair][0] + layer[pair][1] * first + layer[pair][2] * second for pair, first, second in blocks)
               for blocks in (left, right)]
    return weights[1] - weights[0] if word == "right" else weights[0] - weights[1]


def try_falls(kinds, triple, word, layer):
    """Below 0 if a layer falls at a triple, 0 if it never rises there and does not fall, else 1."""
    start = try_change(kinds, triple, word, layer, (1, 1, 1))
    slopes = [try_change(kinds, triple, word, layer, counts) - start for counts in ((2, 1, 1), (1, 2, 1), (1, 1, 2))]
    if max(slopes) > 0 or start > 0:
        return 1
    return -1 if start < 0 else 0


def try_layers(rule, ways, layers):
    for triple in rule.triples():
        told = [try_falls(rule.kinds(), triple, ways[triple], layer) for layer in layers]
        told = [number for number in told if number != 0]
        if not told or told[0] > 0:
            return False
    return bool(layers) or not rule.triples()


def try_lot(rule, ways, lot):
    """Whether blocks taken out and put in balance, pair by pair, in number, first parts and second parts."""
    total = {}
    for triple, (many, x, y, z) in lot.items():
        (a, b, c), sign = triple, 1 if ways[triple] == "right" else -1
        ab, bc = rule.kinds().put(a, b), rule.kinds().put(b, c)
        for pair, first, second, by in [((a, b), x, y, -sign), ((ab, c), x + y, z, -sign), ((b, c), y, z, sign),
                                        ((a, bc), x, y + z, sign)]:
            held = total.setdefault(pair, [0, 0, 0])
            for place, number in enumerate((many, first, second)):
                held[place] += by * number
    return all(held == [0, 0, 0] for held in total.values())


def try_has_round(rule, ways, row):
    """Whether some grouping of a row is come to again along the arrows."""
    onward = {tuple(grouping): [] for grouping in try_groupings(len(row))}
    for here, deed, there in try_steps(len(row)):
        if ways.get(try_triple(rule.kinds(), row, deed)) == deed[0]:
            onward[here].append(there)
    for start in onward:
        seen, edge = set(), [start]
        while edge:
            edge = [there for here in edge for there in onward[here] if there not in seen]
            seen.update(edge)
        if start in seen:
            return True
    return False


def all_ways(rule):
    return [dict(zip(rule.triples(), words)) for words in product(["right", "left"], repeat=len(rule.triples()))]


def some_ways(many):
    """Rules of all makes of two kinds, and some of three, with arrows."""
    chance, found = random.Random(7), []
    for _ in range(many):
        kinds = chance.choice(two_kinds() + [first_kinds(["a", "b", "c"])])
        triples = every_triple(kinds)
        rule = Rule(kinds, sorted(chance.sample(triples, chance.randint(0, min(9, len(triples))))))
        found.append((rule, {triple: chance.choice(["right", "left"]) for triple in rule.triples()}))
    return found


class Layers(unittest.TestCase):
    def test_are_layers_as_tried_with_numbers(self):
        chance = random.Random(5)
        taken = 0
        for rule, ways in some_ways(400):
            pairs = list(product(rule.kinds().kinds(), repeat=2))
            layers = [{pair: (chance.choice([0, 0, 1, -1, 3]), chance.choice([0, 0, 1]), chance.choice([0, 0, 1]))
                       for pair in pairs} for _ in range(chance.randint(0, 3))]
            if chance.random() < 0.5:
                layers.append({pair: (0, 1, 0) for pair in pairs})
                ways = {triple: "right" for triple in ways}
            taken += try_layers(rule, ways, layers)
            self.assertIs(are_layers(rule, ways, layers), try_layers(rule, ways, layers))
        self.assertGreater(taken, 40)

    def test_one_way(self):
        for kinds in some_kinds():
            rule = Rule(kinds, every_triple(kinds))
            pairs = list(product(kinds.kinds(), repeat=2))
            by_first, by_second = {pair: (0, 1, 0) for pair in pairs}, {pair: (0, 0, 1) for pair in pairs}
            for word, good, bad in (("right", by_first, by_second), ("left", by_second, by_first)):
                ways = {triple: word for triple in rule.triples()}
                self.assertIs(are_layers(rule, ways, [good]), True)
                self.assertIs(are_layers(rule, ways, [bad]), False)
                self.assertIs(are_layers(rule, ways, [bad, good]), False)
                self.assertIs(are_layers(rule, ways, [good, bad]), True)

    def test_a_layer_that_falls_by_counts_alone(self):
        # (e, o, e) to the right puts in a block of the pair (o, e) in place of one of (e, o).
        rule, ways = Rule(even(), [("e", "o", "e")]), {("e", "o", "e"): "right"}
        for number in (-1, -10 ** 8, 0, 1):
            layer = {**FLAT, ("o", "e"): (number, 0, 0)}
            self.assertEqual(try_change(even(), ("e", "o", "e"), "right", layer, (5, 6, 7)), 0)
            self.assertIs(are_layers(rule, ways, [layer]), False)
        rule, ways = Rule(even(), [("e", "o", "o")]), {("e", "o", "o"): "right"}
        # (e, o) and (o, o) go, (o, o) and (e, e) come.
        for number, taken in ((1, True), (10 ** 40, True), (0, False), (-1, False)):
            self.assertIs(are_layers(rule, ways, [{**FLAT, ("e", "o"): (number, 0, 0)}]), taken)
        # What falls by things has to fall for one thing each, and to grow no less by more things.
        self.assertIs(are_layers(rule, ways, [{**FLAT, ("e", "o"): (5, -1, 0)}]), False)
        self.assertIs(are_layers(rule, ways, [{**FLAT, ("e", "o"): (-1, 1, 0)}]), False)
        self.assertIs(are_layers(rule, ways, [{**FLAT, ("e", "o"): (0, 1, 0)}]), True)
        self.assertIs(are_layers(rule, ways, [{**FLAT, ("e", "o"): (-1, 1, 1)}]), True)

    def test_rules_without_triples(self):
        self.assertIs(are_layers(NONE, {}, []), True)
        self.assertIs(are_layers(NONE, {}, [LAYER, FLAT]), True)
        self.assertIs(are_layers(NONE, {}, [LAYER, {}]), False)
        self.assertIs(are_layers(TWO, WAYS, []), False)
        self.assertEqual(balanced_lot(NONE, {}), None)
        self.assertIs(are_layers(NONE, {}, layers_of(NONE, {})), True)

    def test_any_object(self):
        check_judge(self, lambda value: are_layers(TWO, WAYS, value))
        check_judge(self, lambda value: are_layers(NONE, {}, value), [[]])
        for wrong in WRONG_LAYERS:
            self.assertIs(are_layers(TWO, WAYS, [LAYER, wrong]), False)
            self.assertIs(are_layers(TWO, WAYS, [wrong, LAYER]), False)
        for value in [(LAYER,), LAYER, {0: LAYER}, [[LAYER]], [FLAT], [FLAT, FLAT], [None, LAYER]]:
            self.assertIs(are_layers(TWO, WAYS, value), False)
        self.assertIs(are_layers(value=[FLAT, PLAIN, LAYER], arrows=WAYS, rule=TWO), True)

    def test_the_order_of_keys_means_nothing(self):
        turned = {pair: LAYER[pair] for pair in reversed(LAYER)}
        ways = {triple: WAYS[triple] for triple in reversed(WAYS)}
        self.assertIs(are_layers(TWO, ways, [turned]), True)
        self.assertEqual(shown(layers_of(TWO, ways)), shown(layers_of(TWO, WAYS)))
        turned = {triple: ABOUT[triple] for triple in reversed(ABOUT)}
        self.assertEqual(shown(balanced_lot(ODD, turned)), shown(balanced_lot(ODD, ABOUT)))
        self.assertEqual(shown(round_of(ODD, turned, 5)), shown(round_of(ODD, ABOUT, 5)))
        self.assertEqual(list(balanced_lot(ODD, turned)), ODD.triples())
        self.assertEqual([list(layer) for layer in layers_of(TWO, ways)], [PAIRS] * len(layers_of(TWO, ways)))

    def test_weights(self):
        chance = random.Random(2)
        for kinds in some_kinds():
            pairs = list(product(kinds.kinds(), repeat=2))
            rule = Rule(kinds, every_triple(kinds)[::3])
            layer = {pair: tuple(chance.choice([-10 ** 20, -3, 0, 1, 7]) for _ in range(3)) for pair in pairs}
            for size in range(1, 6):
                row = [chance.choice(kinds.kinds()) for _ in range(size)]
                for grouping in try_groupings(size):
                    total = 0
                    for block in grouping:
                        first, second = try_parts(grouping, block)
                        k, l, r = layer[(try_kind(kinds, row[slice(*first)]), try_kind(kinds, row[slice(*second)]))]
                        total += k + l * (first[1] - first[0]) + r * (second[1] - second[0])
                    self.assertEqual(weight_of(rule, layer, row, grouping), total)
        self.assertEqual(weight_of(grouping=[], row=["e"], layer=LAYER, rule=NONE), 0)

    def test_wrong_arguments(self):
        both = [("rule", TWO), ("arrows", dict(WAYS))]
        wrong = [("rule", InvalidRule, WRONG_RULES), ("arrows", InvalidArrows, WRONG_WAYS)]
        for function in (layers_of, balanced_lot):
            check_wrong(self, function, lambda: list(both), wrong)
        for function in (are_layers, is_balanced_lot, is_round):
            check_wrong(self, function, lambda: both + [("value", None)], wrong)
        check_wrong(self, round_of, lambda: both + [("size", 3)],
                    wrong + [("size", InvalidCount, [value for value in wrong_for([0, 1, 10 ** 40])] + [-5, "3", [3]])])
        check_wrong(self, weight_of, lambda: [("rule", TWO), ("layer", dict(LAYER)), ("row", ["e"] * 4),
                                              ("grouping", list(LEFT))],
                    [wrong[0], ("layer", InvalidNumbers, WRONG_LAYERS), ("row", InvalidRow, WRONG_ROWS),
                     ("grouping", InvalidGrouping, OF_FOUR)])


class Lots(unittest.TestCase):
    def test_layers_or_a_lot(self):
        asked = [(rule, ways) for kinds in (even(), lesser()) for number in (7, 81, 105, 127, 232)
                 for rule in [rule_of(kinds, number)] for ways in all_ways(rule)]
        lots = 0
        for rule, ways in asked + some_ways(150):
            layers, lot = layers_of(rule, ways), balanced_lot(rule, ways)
            self.assertIs(layers is None, lot is not None)
            if layers is None:
                lots += 1
                self.assertIs(is_balanced_lot(rule, ways, lot), True)
                self.assertTrue(try_lot(rule, ways, lot))
                self.assertTrue(all(min(share) == share[0] >= 1 for share in lot.values()))
            else:
                self.assertIs(are_layers(rule, ways, layers), True)
                self.assertTrue(try_layers(rule, ways, layers))
        self.assertGreater(lots, 10)

    def test_all_arrows_of_the_rule_that_has_a_round(self):
        for ways in all_ways(ODD):
            self.assertIs(layers_of(ODD, ways) is None, balanced_lot(ODD, ways) is not None)
            self.assertEqual(round_of(ODD, ways, 4) is not None, try_has_round(ODD, ways, ["o"] * 4))

    def test_lots_as_tried_with_numbers(self):
        chance, good = random.Random(13), 0
        for _ in range(3000):
            lot = {triple: tuple(chance.choice([share, share, share, chance.randint(0, 3)]) for share in LOT[triple])
                   for triple in LOT if chance.random() < 0.95}
            taken = bool(lot) and all(min(share) == share[0] >= 1 for share in lot.values()) and try_lot(ODD, ABOUT, lot)
            good += taken
            self.assertIs(is_balanced_lot(ODD, ABOUT, lot), taken)
        self.assertGreater(good, 20)
        for factor in (2, 3, 10 ** 20):
            lot = {triple: tuple(factor * number for number in LOT[triple]) for triple in LOT}
            self.assertIs(is_balanced_lot(ODD, ABOUT, lot), True)

    def test_any_object(self):
        check_judge(self, lambda value: is_balanced_lot(ODD, ABOUT, value))
        check_judge(self, lambda value: is_balanced_lot(NONE, {}, value))
        some = ("e", "o", "o")
        for value in [{**LOT, some: (1, 2, 1)}, {**LOT, some: [1, 2, 1, 1]}, {**LOT, some: (True, 2, 1, 1)},
                      {**LOT, some: (1, 2, True, 1)}, {**LOT, some: (0, 0, 0, 0)}, {**LOT, some: (1, 2, 0, 1)},
                      {**LOT, some: None}, {**LOT, ("e", "e", "e"): (1, 1, 1, 1)}, {**LOT, 0: (1, 1, 1, 1)}, [LOT],
                      list(LOT.items()), {**LOT, some: (1, 2, 1, 1, 1)}, {**LOT, some: even()}, (LOT,)]:
            self.assertIs(is_balanced_lot(ODD, ABOUT, value), False)
        self.assertIs(is_balanced_lot(value={triple: LOT[triple] for triple in reversed(LOT)}, arrows=ABOUT, rule=ODD),
                      True)
        # Blocks that are taken out and put in by no deed at all make no lot.
        one, triple = first_kinds(["z"]), ("z", "z", "z")
        for share in [(0, 0, 5, 0), (0, 0, 0, 0)]:
            self.assertTrue(try_lot(Rule(one, [triple]), {triple: "right"}, {triple: share}))
            self.assertIs(is_balanced_lot(Rule(one, [triple]), {triple: "right"}, {triple: share}), False)
        wide, ways = rule_of(even(), 255), {triple: ABOUT.get(triple, "right") for triple in every_triple(even())}
        self.assertIs(is_balanced_lot(wide, ways, LOT), True)
        self.assertIs(is_balanced_lot(wide, ways, {**LOT, ("e", "e", "e"): (0, 0, 0, 0)}), False)
        # It is a lot of arrows all the other way, too, but of no others.
        for ways in all_ways(ODD):
            turned = [ways[triple] == ABOUT[triple] for triple in ways]
            self.assertIs(is_balanced_lot(ODD, ways, LOT), all(turned) or not any(turned))


class Rounds(unittest.TestCase):
    def test_rounds_are_found_where_there_are_any(self):
        rounds = 0
        for rule, ways in some_ways(120) + [(ODD, ways) for ways in all_ways(ODD)]:
            for size in (3, 4, 5):
                found = round_of(rule, ways, size)
                self.assertIs(is_round(rule, ways, found), found is not None)
                if size < 5 or len(rule.kinds().kinds()) < 3:
                    has = any(try_has_round(rule, ways, row) for many in range(1, size + 1)
                              for row in rows_of(rule.kinds(), many))
                    self.assertIs(found is not None, has)
                if found is not None:
                    rounds += 1
                    self.assertLessEqual(len(found[0]), size)
                    self.assertIsNone(layers_of(rule, ways))
        self.assertGreater(rounds, 3)

    def test_few_things(self):
        for size in (0, 1, 2, 3):
            self.assertIsNone(round_of(ODD, ABOUT, size))
        for size in (4, 5, 6):
            self.assertIs(is_round(ODD, ABOUT, round_of(size=size, arrows=ABOUT, rule=ODD)), True)
        self.assertIsNone(round_of(NONE, {}, 6))

    def test_is_round(self):
        row, start, deeds = ROUND
        self.assertIs(is_round(ODD, ABOUT, ROUND), True)
        self.assertIs(is_round(value=(row, start, deeds * 2), arrows=ABOUT, rule=ODD), True)
        self.assertIs(is_round(ODD, ABOUT, (row, [(0, 2), (0, 4), (2, 4)], deeds[4:] + deeds[:4])), True)
        longer = [(word, *[place + 1 for place in places]) for word, *places in deeds]
        self.assertIs(is_round(ODD, ABOUT, (["e"] + row, [(0, 5), (1, 3), (1, 4), (1, 5)], longer)), True)
        turned = [("left" if word == "right" else "right", *places) for word, *places in reversed(deeds)]
        self.assertIs(is_round(ODD, ABOUT, (row, start, turned)), False)
        other = {triple: "left" if ABOUT[triple] == "right" else "right" for triple in ABOUT}
        self.assertIs(is_round(ODD, other, (row, start, turned)), True)
        self.assertIs(is_round(ODD, other, ROUND), False)
        bare = Rule(even(), ODD.triples()[:3])
        self.assertIs(is_round(bare, {triple: ABOUT[triple] for triple in bare.triples()}, ROUND), False)

    def test_any_object(self):
        row, start, deeds = ROUND
        check_judge(self, lambda value: is_round(ODD, ABOUT, value))
        for wrong in wrong_for():
            for value in ((wrong, start, deeds), (row, wrong, deeds), (row, start, wrong), (row, start, deeds + [wrong])):
                self.assertIs(is_round(ODD, ABOUT, value), False)
        for value in [list(ROUND), ROUND + (None,), ROUND[:2], (row, start, []), (row, start, deeds[:4]),
                      (row, start, tuple(deeds)), (tuple(row), start, deeds), (row, tuple(start), deeds),
                      (row, start, [list(deed) for deed in deeds]), (["x"] * 4, start, deeds), (row[:3], start, deeds),
                      (row + ["o"], start, deeds), (row, start, [("right", False, 1, 2, 3)] + deeds[1:])]:
            self.assertIs(is_round(ODD, ABOUT, value), False)


class Changes(unittest.TestCase):
    def test_what_was_passed_or_returned_may_change(self):
        rule, ways, layer, grouping = ODD, dict(ABOUT), dict(LAYER), list(LEFT)
        before = shown([rule, ways, layer, grouping])
        one = {triple: "right" for triple in ODD.triples()}

        def told():
            return [layers_of(rule, one), balanced_lot(rule, ways), list(round_of(rule, ways, 5)), layers_of(NONE, {})]
        first = shown(told())
        for layers, lot, (row, start, deeds), none in [told(), told()]:
            layers[0].clear()
            layers.append(None)
            lot.clear()
            none.append(None)
            for some in (row, start, deeds):
                some.append(None)
        self.assertEqual(shown(told()), first)
        weight_of(rule, layer, ["o"] * 4, grouping)
        self.assertEqual(shown([rule, ways, layer, grouping]), before)

    def test_errors_of_great_and_odd_layers(self):
        error = raised(lambda: weight_of(TWO, {**LAYER, ("o", "o"): (0, 0, 10 ** 50)}, ["o", "o"], [(0, 2)]))
        self.assertIsNone(error)
        self.assertEqual(weight_of(seven(), {**LAYER, ("o", "o"): (1, 2, 10 ** 50)}, ["o", "o"], [(0, 2)]),
                         3 + 10 ** 50)


if __name__ == "__main__":
    unittest.main()
