"""Section 3: kinds ([10] to [16]), with [2] for them."""

import unittest
from itertools import product

from kindshifts.errors import InvalidKind, InvalidKinds, InvalidMap, InvalidRow, InvalidTable
from kindshifts.kinds import (Kinds, alike_map, all_maps, closed_by, closed_lists, cut_to, first_kinds, greatest_kinds,
                              image_of, is_even_handed, is_kind, is_map, is_plain_table, is_table, last_kinds, neutral,
                              opposite, put_all, renamed, ring_kinds, unlike_three)
from tests.support import (EVEN_TABLE, ODD_TABLE, check_judge, check_wrong, even, every_triple, pool, rows_of, seven,
                           shown, some_kinds, some_objects, try_kind, wrong_for)

WORDS_OF_POOL = ["right", "left"]
NOT_KINDS = [value for value in pool() if shown(value) not in [shown(word) for word in WORDS_OF_POOL]]
WRONG_KINDS = NOT_KINDS + WORDS_OF_POOL + [seven(), dict(EVEN_TABLE)]
WRONG_NAMES = wrong_for() + [("a", "b"), ["a", "a"], ["a", "B"], ["a", 1], ["a", ""], {"a": "b"}, "ab", even()]
WRONG_ROWS = wrong_for() + [("e", "o"), ["e", "a"], ["e", "o", "x"], "eo", ["e", ("o",)], [["e"]], {"e": "o"}]


def plain_tables(names):
    """All plain tables of some kinds."""
    pairs = list(product(names, names))
    return [dict(zip(pairs, made)) for made in product(names, repeat=len(pairs))]


def unlike_threes(table):
    names = sorted({name for pair in table for name in pair})
    return [(a, b, c) for a, b, c in product(names, repeat=3)
            if table[(table[(a, b)], c)] != table[(a, table[(b, c)])]]


def try_maps(one, other):
    """All maps, out of all dictionaries of the kinds."""
    found = []
    for goals in product(other.kinds(), repeat=len(one.kinds())):
        sent = dict(zip(one.kinds(), goals))
        if all(sent[one.put(a, b)] == other.put(sent[a], sent[b]) for a in sent for b in sent):
            found.append(sent)
    return found


def try_closed(kinds):
    names = kinds.kinds()
    lists = [[name for name, has in zip(names, some) if has] for some in product([0, 1], repeat=len(names))]
    return sorted(some for some in lists if some and all(kinds.put(a, b) in some for a in some for b in some))


class Tables(unittest.TestCase):
    def test_is_kind(self):
        for value in ["a", "z", "even", "abcdefgh", "zzzzzzzz"]:
            self.assertIs(is_kind(value), True)
        for value in ["", "abcdefghi", "A", "aB", "a1", "a ", "a_b", "a-", chr(9), "a" + chr(10), "`", "{"]:
            self.assertIs(is_kind(value), False)
        check_judge(self, is_kind, WORDS_OF_POOL)
        self.assertIs(is_kind(value="e"), True)

    def test_is_plain_table(self):
        check_judge(self, is_plain_table, [ODD_TABLE])
        self.assertIs(is_plain_table(value={("a", "a"): "a"}), True)
        self.assertIs(is_plain_table({("a", "a"): "b"}), False)
        self.assertIs(is_plain_table({("a", "b"): "a"}), False)
        self.assertIs(is_plain_table({("a", "a"): ["a"]}), False)
        self.assertIs(is_plain_table({("a", "a"): even()}), False)
        self.assertIs(is_plain_table({("A", "A"): "A"}), False)
        self.assertIs(is_plain_table({"aa": "a"}), False)
        self.assertIs(is_plain_table([(("a", "a"), "a")]), False)

    def test_each_change_of_a_plain_table_breaks_it(self):
        for pair in ODD_TABLE:
            less = {key: made for key, made in ODD_TABLE.items() if key != pair}
            self.assertIs(is_plain_table(less), False)
            for other in ["c", "A", "", None, 1, True, ("a",), ["a"], {}]:
                self.assertIs(is_plain_table({**ODD_TABLE, pair: other}), False)
        for more in [("a", "c"), ("a", None), ("a", 1), ("a", "A"), (None, "a"), ("a", ("a",)), ("a",),
                     ("a", "a", "a"), "a", None, 0, True, (("a", "a"), "a"), InvalidKind]:
            self.assertIs(is_plain_table({**ODD_TABLE, more: "a"}), False)

    def test_tables_of_two_and_three_kinds(self):
        # There are 8 and 113 tables in which three make one kind however they are bracketed.
        for names, many in [(["a", "b"], 8), (["a", "b", "c"], 113)]:
            tables = [table for table in plain_tables(names) if is_table(table)]
            self.assertEqual(len(tables), many)
            self.assertTrue(all(unlike_threes(table) == [] for table in tables))

    def test_unlike_three(self):
        for table in plain_tables(["b", "a"]) + plain_tables(["a", "b", "c"])[::37]:
            found = unlike_threes(table)
            self.assertIs(is_plain_table(table), True)
            self.assertIs(is_table(table), found == [])
            self.assertEqual(unlike_three(table), found[0] if found else None)
            self.assertEqual(unlike_three(dict(reversed(table.items()))), unlike_three(table))

    def test_is_table(self):
        check_judge(self, is_table)
        self.assertIs(is_table(value=dict(EVEN_TABLE)), True)
        for kinds in some_kinds():
            self.assertIs(is_table(kinds.table()), True)

    def test_wrong_tables(self):
        plain = wrong_for([ODD_TABLE]) + [even(), {("a", "a"): "b"}, list(EVEN_TABLE.items())]
        check_wrong(self, Kinds, lambda: [("table", dict(EVEN_TABLE))], [("table", InvalidTable, plain + [ODD_TABLE])])
        check_wrong(self, unlike_three, lambda: [("table", dict(ODD_TABLE))], [("table", InvalidTable, plain)])


class KindsThemselves(unittest.TestCase):
    def test_table_and_kinds_ascend(self):
        mixed = Kinds({("o", "o"): "e", ("e", "o"): "o", ("e", "e"): "e", ("o", "e"): "o"})
        self.assertEqual(list(mixed.table().items()), sorted(EVEN_TABLE.items()))
        self.assertEqual(mixed.kinds(), ["e", "o"])
        self.assertEqual(mixed, even())
        self.assertEqual(ring_kinds(["x", "aa", "m", "b"]).kinds(), ["aa", "b", "m", "x"])

    def test_one_kind(self):
        lone = Kinds({("a", "a"): "a"})
        self.assertEqual((lone.kinds(), lone.put("a", "a"), lone.table()), (["a"], "a", {("a", "a"): "a"}))

    def test_put(self):
        for kinds in some_kinds():
            for (first, second), made in kinds.table().items():
                self.assertEqual(kinds.put(first, second), made)
                self.assertEqual(kinds.put(second=second, first=first), made)
        wrong = NOT_KINDS + some_objects() + ["right", "a", "oo"]
        check_wrong(self, even().put, lambda: [("first", "e"), ("second", "o")],
                    [("first", InvalidKind, wrong), ("second", InvalidKind, wrong)])

    def test_equal_exactly_if_the_tables_are(self):
        all_of_two = [Kinds(table) for table in plain_tables(["a", "b"]) if is_table(table)]
        for one in all_of_two:
            for other in all_of_two:
                self.assertIs(one == other, one.table() == other.table())
                self.assertIs(one != other, one.table() != other.table())
        for other in pool() + [seven(), dict(EVEN_TABLE), EVEN_TABLE]:
            self.assertIs(even() == other, False)
            self.assertIs(other == even(), False)

    def test_what_was_passed_or_returned_may_change(self):
        table = dict(EVEN_TABLE)
        kinds = Kinds(table)
        table.clear()
        kinds.table().clear()
        kinds.table()[("e", "e")] = "o"
        kinds.kinds().append("x")
        self.assertEqual((kinds.table(), kinds.kinds()), (EVEN_TABLE, ["e", "o"]))
        self.assertEqual(kinds, even())


class Making(unittest.TestCase):
    def test_put_all(self):
        for kinds in some_kinds():
            for size in (1, 2, 3, 4):
                for row in rows_of(kinds, size):
                    self.assertEqual(put_all(kinds, row), try_kind(kinds, row))
        self.assertEqual(put_all(row=["o"] * 12, kinds=even()), "e")
        check_wrong(self, put_all, lambda: [("kinds", even()), ("row", ["e", "o"])],
                    [("kinds", InvalidKinds, WRONG_KINDS), ("row", InvalidRow, WRONG_ROWS)])

    def test_kinds_of_names(self):
        for names in [["a"], ["b", "a"], ["c", "a", "b"], ["x", "aa", "m", "b"]]:
            size = len(names)
            makes = [(first_kinds, lambda i, j: i), (last_kinds, lambda i, j: j), (greatest_kinds, max),
                     (ring_kinds, lambda i, j: i + j - size if i + j >= size else i + j)]
            for function, place in makes:
                table = {(names[i], names[j]): names[place(i, j)] for i in range(size) for j in range(size)}
                before = list(names)
                self.assertEqual(function(names), Kinds(table))
                self.assertEqual(function(names=names).kinds(), sorted(names))
                self.assertEqual(names, before)

    def test_wrong_names(self):
        for function in (first_kinds, last_kinds, greatest_kinds, ring_kinds):
            check_wrong(self, function, lambda: [("names", ["b", "a"])], [("names", InvalidKinds, WRONG_NAMES)])

    def test_names_may_change(self):
        names = ["b", "a"]
        kinds = greatest_kinds(names)
        names.reverse()
        self.assertEqual(kinds.put("a", "b"), "a")

    def test_opposite(self):
        for kinds in some_kinds():
            table = {(b, a): made for (a, b), made in kinds.table().items()}
            self.assertEqual(opposite(kinds), Kinds(table))
            self.assertEqual(opposite(opposite(kinds=kinds)), kinds)
        check_wrong(self, opposite, lambda: [("kinds", even())], [("kinds", InvalidKinds, WRONG_KINDS)])

    def test_renamed(self):
        ring = ring_kinds(["a", "b", "c"])
        self.assertEqual(renamed(ring, {"c": "z", "a": "x", "b": "y"}), ring_kinds(["x", "y", "z"]))
        self.assertEqual(renamed(kinds=ring, sent={"a": "b", "b": "c", "c": "a"}), ring_kinds(["b", "c", "a"]))
        self.assertEqual(renamed(first_kinds(["z"]), {"z": "right"}), first_kinds(["right"]))
        wrong = wrong_for() + [{"e": "a", "o": "a"}, {"e": "a"}, {"e": "a", "o": "b", "x": "c"}, {"e": "a", "x": "b"},
                               {"e": "A", "o": "b"}, {"e": ["a"], "o": "b"}, {"e": "a", "o": None}, {}, even(),
                               [("e", "a"), ("o", "b")], {("e",): "a", "o": "b"}, {"e": even(), "o": "b"}]
        check_wrong(self, renamed, lambda: [("kinds", even()), ("sent", {"e": "a", "o": "b"})],
                    [("kinds", InvalidKinds, WRONG_KINDS), ("sent", InvalidMap, wrong)])


class Closed(unittest.TestCase):
    def test_closed_lists(self):
        for kinds in some_kinds():
            self.assertEqual(closed_lists(kinds), try_closed(kinds))
        self.assertEqual(closed_lists(kinds=first_kinds(["z"])), [["z"]])
        check_wrong(self, closed_lists, lambda: [("kinds", even())], [("kinds", InvalidKinds, WRONG_KINDS)])

    def test_closed_by(self):
        for kinds in some_kinds():
            for size in (1, 2, 3):
                for names in rows_of(kinds, size):
                    fitting = [some for some in try_closed(kinds) if set(names) <= set(some)]
                    before = list(names)
                    self.assertEqual(closed_by(kinds, names), min(fitting, key=len))
                    self.assertEqual(names, before)
        self.assertEqual(closed_by(names=["o", "o"], kinds=even()), ["e", "o"])
        check_wrong(self, closed_by, lambda: [("kinds", even()), ("names", ["o"])],
                    [("kinds", InvalidKinds, WRONG_KINDS), ("names", InvalidKinds, WRONG_ROWS)])

    def test_cut_to(self):
        for kinds in some_kinds():
            for names in try_closed(kinds):
                table = {pair: made for pair, made in kinds.table().items() if pair[0] in names and pair[1] in names}
                self.assertEqual(cut_to(kinds, names).table(), table)
                self.assertEqual(cut_to(names=names[::-1], kinds=kinds).kinds(), names)
        wrong = WRONG_ROWS + [["o"], ["e", "e"], ["e", "o", "e"]]
        check_wrong(self, cut_to, lambda: [("kinds", even()), ("names", ["o", "e"])],
                    [("kinds", InvalidKinds, WRONG_KINDS), ("names", InvalidKinds, wrong)])


class Maps(unittest.TestCase):
    def test_all_maps_are_those_found_by_trial(self):
        for one in some_kinds():
            for other in some_kinds():
                maps = all_maps(one, other)
                self.assertEqual(shown(maps), shown(try_maps(one, other)))
                goals = [list(sent.values()) for sent in maps]
                self.assertEqual(goals, sorted(goals))
                for sent in maps:
                    self.assertEqual(image_of(one, other, sent), sorted(set(sent.values())))

    def test_is_map_of_all_dictionaries(self):
        for one in some_kinds():
            for other in some_kinds():
                maps = try_maps(one, other)
                for goals in product(other.kinds(), repeat=len(one.kinds())):
                    sent = dict(reversed(list(zip(one.kinds(), goals))))
                    self.assertIs(is_map(one, other, sent), sent in maps)

    def test_is_map_of_any_object(self):
        check_judge(self, lambda value: is_map(even(), even(), value))
        lone = first_kinds(["e"])
        check_judge(self, lambda value: is_map(lone, lone, value), [{"e": "e"}])
        for value in [{"e": "e", "o": "x"}, {"e": "e", "o": "o", "x": "e"}, {"e": "e", "x": "o"},
                      {"e": "e", "o": ["o"]}, {"e": "e", "o": even()}, {"e": "e", ("o",): "o"},
                      [("e", "e"), ("o", "o")], {"e": "e"}]:
            self.assertIs(is_map(even(), even(), value), False)
        self.assertIs(is_map(value={"o": "o", "e": "e"}, other=even(), one=even()), True)

    def test_alike_map(self):
        for one in some_kinds():
            for other in some_kinds():
                fitting = [sent for sent in try_maps(one, other) if sorted(sent.values()) == other.kinds()]
                self.assertEqual(shown(alike_map(one, other)), shown(fitting[0] if fitting else None))
        for one in some_kinds():
            sent = dict(zip(one.kinds(), ["z", "y", "x", "w"]))
            self.assertIsNotNone(alike_map(one=one, other=renamed(one, sent)))

    def test_wrong_kinds_and_maps(self):
        both = [("one", InvalidKinds, WRONG_KINDS), ("other", InvalidKinds, WRONG_KINDS)]
        good = [("one", even()), ("other", even())]
        check_wrong(self, all_maps, lambda: list(good), both)
        check_wrong(self, alike_map, lambda: list(good), both)
        check_wrong(self, is_map, lambda: good + [("value", None)], both)
        wrong = wrong_for() + [{"e": "o", "o": "o"}, {"e": "e"}, {"e": "e", "o": "x"}, {"e": "e", "o": []}, even()]
        check_wrong(self, image_of, lambda: good + [("sent", {"o": "e", "e": "e"})],
                    both + [("sent", InvalidMap, wrong)])

    def test_returned_maps_may_change(self):
        maps = all_maps(even(), even())
        maps[0]["e"] = "x"
        maps.clear()
        alike_map(even(), even()).clear()
        closed_lists(even())[0].append("x")
        self.assertEqual(all_maps(even(), even()), [{"e": "e", "o": "e"}, {"e": "e", "o": "o"}])
        self.assertEqual(alike_map(even(), even()), {"e": "e", "o": "o"})
        self.assertEqual(closed_lists(even()), [["e"], ["e", "o"]])


class Handedness(unittest.TestCase):
    def test_neutral_and_even_handed(self):
        tables = [table for table in plain_tables(["b", "a"]) + plain_tables(["a", "b", "c"]) if is_table(table)]
        for kinds in some_kinds() + [Kinds(table) for table in tables]:
            names = kinds.kinds()
            found = [some for some in names
                     if all(kinds.put(some, name) == name == kinds.put(name, some) for name in names)]
            self.assertEqual(neutral(kinds=kinds), found[0] if found else None)
            self.assertIs(is_even_handed(kinds=kinds),
                          all(kinds.put(a, b) == kinds.put(b, a) for a, b in product(names, names)))

    def test_wrong_kinds(self):
        for function in (neutral, is_even_handed):
            check_wrong(self, function, lambda: [("kinds", even())], [("kinds", InvalidKinds, WRONG_KINDS)])

    def test_every_triple_of_some_kinds_makes_one_kind(self):
        for kinds in some_kinds():
            for a, b, c in every_triple(kinds):
                self.assertEqual(kinds.put(kinds.put(a, b), c), kinds.put(a, kinds.put(b, c)))


if __name__ == "__main__":
    unittest.main()
