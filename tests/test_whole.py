"""Section 1 over the whole program: the same questions, whatever was asked, told and changed between ([2], [3])."""

import importlib
import inspect
import random
import unittest
from copy import deepcopy

from kindshifts import bonds, editions, noughts
from kindshifts.combing import Comb, right_comb
from kindshifts.errors import KindError
from kindshifts.kinds import Kinds, first_kinds
from kindshifts.rules import Rule
from kindshifts.shelf import Shelf
from tests.support import even, every_triple, lesser, mixed, pool, seven, shown, unsettled
from tests.test_interface import FUNCTIONS

SETTLED = right_comb(Rule(even(), every_triple(even())))
ROW, LEFT, PAIRS = ["o", "o", "o", "o"], [(0, 2), (0, 3), (0, 4)], [(0, 2), (0, 4), (2, 4)]
SCRIPT = [("put", list(ROW), list(LEFT)), ("try", [("put", ["e"], [])]), ("wish", 0, list(PAIRS)), ("deeds", 0)]
CHAIN = [("right", 0, 2, 3, 4)]
WAYS = {triple: "right" for triple in seven().triples()}
PAIR_WEIGHTS = {(a, b): 1 for a in "eo" for b in "eo"}
# A good argument for each name of a parameter, made anew each time.
GOOD = {"kinds": even, "table": lambda: even().table(), "names": lambda: ["o", "e"], "tree": lambda: (("o", "o"), "e"),
        "row": lambda: list(ROW), "grouping": lambda: list(LEFT), "block": lambda: (0, 4), "some": lambda: (0, 3),
        "size": lambda: 3, "number": lambda: 0, "inner": lambda: list(PAIRS), "rule": seven,
        "triples": lambda: [("e", "o", "o")],
        "deed": lambda: CHAIN[0], "chain": lambda: list(CHAIN), "four": lambda: list(ROW), "firsts": lambda: ["e"],
        "seconds": lambda: ["e", "o"], "thirds": lambda: ["o"], "one": lambda: list(LEFT), "other": lambda: list(PAIRS),
        "comb": mixed, "arrows": lambda: dict(WAYS), "layer": lambda: {pair: (0, 1, 0) for pair in PAIR_WEIGHTS},
        "corner": lambda: 0, "place": lambda: 1, "kind": lambda: "e", "word": lambda: "right",
        "value": lambda: list(CHAIN),
        "sent": lambda: {"o": "e", "e": "e"}, "weights": lambda: {"o": 2, "e": 2}, "places": lambda: ["a", "b", "c"],
        "stretches": lambda: [(0, 2)], "bonds": lambda: [(0, 2), (2, 4)], "stretch": lambda: (0, 2),
        "change": lambda: ("let", ("o", "o", "o")), "changes": lambda: [("let", ("o", "o", "o")), ("thing", 0, "e")],
        "others": lambda: [["e", "o", "o", "o"], list(ROW)], "shelf": lambda: Shelf(mixed()),
        "log": lambda: deepcopy(SCRIPT[:1]), "script": lambda: deepcopy(SCRIPT), "text": lambda: ""}
# Where a name means something else in a module, or in a function of it.
OTHERWISE = {"noughts": {"row": lambda: [1, -1, 1, -1]}, "bonds": {"row": lambda: [1, -1, 1, -1]},
             "alike_in_noughts": {"other": lambda: [1, -1, 1, -1]},
             "put_together": {"one": lambda: [(0, 2)], "other": lambda: [(0, 2)]},
             "is_map": {"one": even, "other": even}, "all_maps": {"one": even, "other": even},
             "image_of": {"one": even, "other": even}, "alike_map": {"one": even, "other": even},
             "orders": {"one": seven, "other": lambda: Rule(even(), [("o", "o", "o")])},
             "carries": {"other": seven, "sent": lambda: {"o": "o", "e": "e"}},
             "are_kept_pairs": {"weights": lambda: dict(PAIR_WEIGHTS)}, "read_kinds": {"text": lambda: "z z = z"},
             "read_rule": {"text": lambda: "z z = z\nlet"}, "read_change": {"text": lambda: "thing 0 b"},
             "through": {"rule": SETTLED.rule}, "is_through": {"rule": SETTLED.rule}, "renamed": {
                 "sent": lambda: {"e": "o", "o": "e"}}, "needed_triples": {"other": lambda: list(PAIRS)}}


def questions():
    """All functions of the interface, each with a function that makes good arguments."""
    found = []
    for module, signatures in FUNCTIONS.items():
        for signature in signatures:
            function = getattr(importlib.import_module("kindshifts." + module), signature.partition("(")[0])
            makers = {name: OTHERWISE.get(function.__name__, {}).get(name) or OTHERWISE.get(module, {}).get(name)
                      or GOOD[name] for name in inspect.signature(function).parameters}
            found.append((function, makers))
    return found


def asked(function, makers):
    return function(**{name: make() for name, make in makers.items()})


def spoil(value):
    """Changes all lists and dictionaries in what was told."""
    if isinstance(value, (list, tuple)):
        for item in value:
            spoil(item)
    if isinstance(value, dict):
        for item in list(value.values()):
            spoil(item)
        value.clear()
        value["spoilt"] = []
    if isinstance(value, list):
        value.append("spoilt")
        value.reverse()
    if isinstance(value, Kinds):
        spoil([value.table(), value.kinds()])
    if isinstance(value, Rule):
        spoil([value.triples(), value.kinds()])
    if isinstance(value, Comb):
        spoil([value.arrows(), value.layers(), value.rule()])
    if isinstance(value, Shelf):
        spoil([value.log(), value.spots()])


class Whole(unittest.TestCase):
    def test_all_questions_again_in_another_order_and_after_all_was_changed(self):
        asking, first = questions(), {}
        self.assertEqual(len(asking), sum(len(signatures) for signatures in FUNCTIONS.values()))
        for function, makers in asking:
            told = asked(function, makers)
            first[function] = shown(told)
            spoil(told)
        for seed in (1, 2):
            random.Random(seed).shuffle(asking)
            for function, makers in asking:
                told = asked(function, makers)
                with self.subTest(function=function):
                    self.assertEqual(shown(told), first[function])
                spoil(told)

    def test_questions_leave_what_they_are_asked_of_as_it_was(self):
        for function, makers in questions():
            passed = {name: make() for name, make in makers.items()}
            before = shown(list(passed.values()))
            told = function(*passed.values())
            spoil(told)
            with self.subTest(function=function):
                if function.__name__ != "play":
                    self.assertEqual(shown(list(passed.values())), before)
                    again = function(**passed)
                    self.assertEqual(shown(again), shown(asked(function, makers)))

    def test_what_is_passed_may_be_changed_behind_the_call(self):
        for function, makers in questions():
            passed = {name: make() for name, make in makers.items()}
            told = function(**passed)
            before = shown(told)
            for value in passed.values():
                if isinstance(value, (list, dict)):
                    spoil(value)
            with self.subTest(function=function):
                self.assertEqual(shown(told), before)

    def test_any_object_for_each_argument(self):
        # A call returns, or raises an error of this package that holds the very argument.
        for function, makers in questions():
            for name in makers:
                for value in pool() + [even(), seven(), mixed(), unsettled(), Shelf(mixed())]:
                    passed = {other: make() for other, make in makers.items()}
                    passed[name] = value
                    if value == 10 ** 40 or name in ("size", "number") and isinstance(value, int):
                        continue
                    try:
                        function(**passed)
                    except KindError as error:
                        with self.subTest(function=function, name=name, value=value):
                            self.assertTrue(any(error.value is some for some in passed.values()))

    def test_the_order_of_keys_means_nothing(self):
        turned = {name: (lambda make=make: dict(reversed(list(make().items())))) for name, make in GOOD.items()
                  if isinstance(make(), dict)}
        for function, makers in questions():
            others = {name: turned[name] if name in turned and make is GOOD[name] else make
                      for name, make in makers.items()}
            with self.subTest(function=function):
                self.assertEqual(shown(asked(function, others)), shown(asked(function, makers)))


class Equal(unittest.TestCase):
    def things(self):
        kinds = [even(), first_kinds(["e", "o"]), lesser(), first_kinds(["e"])]
        rules = [seven(), Rule(even(), []), Rule(first_kinds(["e", "o"]), []), Rule(first_kinds(["e"]), [])]
        combs = [mixed(), SETTLED, right_comb(Rule(even(), [])), right_comb(Rule(first_kinds(["e"]), [])), unsettled()]
        return kinds + rules + combs + [Shelf(mixed()), Shelf(mixed())] + pool()

    def test_what_is_never_equal(self):
        for place, one in enumerate(self.things()):
            for other_place, other in enumerate(self.things()):
                if isinstance(one, (Kinds, Rule, Comb)) or isinstance(other, (Kinds, Rule, Comb)):
                    with self.subTest(one=one, other=other):
                        self.assertIs(one == other, place == other_place)
                        self.assertIs(one != other, place != other_place)

    def test_equal_rules_and_combs_made_otherwise(self):
        table, triples = even().table(), seven().triples()
        kinds = Kinds(dict(reversed(list(table.items()))))
        self.assertTrue(kinds == even() and Rule(kinds, triples) == seven())
        comb = mixed()
        other = Comb(comb.rule(), dict(reversed(list(comb.arrows().items()))),
                     [dict(reversed(list(layer.items()))) for layer in comb.layers()])
        self.assertTrue(other == comb)
        self.assertEqual(shown(other), shown(comb))
        self.assertFalse(Comb(comb.rule(), comb.arrows(), comb.layers() * 2) == comb)


class Limits(unittest.TestCase):
    def test_what_is_returned_may_be_passed_again(self):
        row, places = [99, -99] * 6, ["a", "b", "c"]
        for number in (0, 50, 131):
            told = bonds.bonds_at(row, number)
            self.assertEqual(bonds.bonds_place(row, told), number)
            grouping = bonds.grouped_by(row, told)
            last = noughts.nought_last(row, places, grouping)
            chain = noughts.nought_chain(row, places, grouping, last)
            self.assertIs(noughts.is_nought_chain(row, places, grouping, last, chain), True)
        stretches = noughts.nought_stretches([0] * 12)
        self.assertIs(noughts.are_noughts(12, stretches), True)
        self.assertIs(noughts.are_noughts(12, stretches[:-1]), False)
        made = editions.changed_by(seven(), ["o"] * 6, [("let", ("o", "o", "o"))])
        self.assertEqual(editions.like_rows(made[0], made[1], [["e"] * 6]), [0])


if __name__ == "__main__":
    unittest.main()
