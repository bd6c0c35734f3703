"""The examples of the document, as it prints them."""

import unittest

KINDS = '''
from kindshifts.kinds import Kinds, alike_map, all_maps, closed_by, closed_lists, cut_to, first_kinds, greatest_kinds, image_of, is_even_handed, is_map, is_plain_table, is_table, last_kinds, neutral, opposite, put_all, renamed, ring_kinds, unlike_three
even = Kinds({("e", "e"): "e", ("e", "o"): "o", ("o", "e"): "o", ("o", "o"): "e"})
odd = {("a", "a"): "b", ("a", "b"): "a", ("b", "a"): "b", ("b", "b"): "a"}
[even.kinds(), even.put("o", "o"), put_all(even, ["o", "o", "o"]), is_plain_table(odd), is_table(odd), unlike_three(odd)]
# [['e', 'o'], 'e', 'o', True, False, ('a', 'a', 'a')]
[ring_kinds(["e", "o"]) == even, opposite(first_kinds(["a", "b"])) == last_kinds(["b", "a"]), greatest_kinds(["b", "a"]).put("a", "b"), neutral(even)]
# [True, True, 'a', 'e']
[closed_lists(even), closed_by(even, ["o"]), cut_to(even, ["e"]).table(), is_even_handed(first_kinds(["a", "b"]))]
# [[['e'], ['e', 'o']], ['e', 'o'], {('e', 'e'): 'e'}, False]
[all_maps(even, even), is_map(even, even, {"e": "o", "o": "o"}), image_of(even, even, {"e": "e", "o": "e"}), alike_map(even, renamed(even, {"e": "o", "o": "e"}))]
# [[{'e': 'e', 'o': 'e'}, {'e': 'e', 'o': 'o'}], False, ['e'], {'e': 'o', 'o': 'e'}]
'''

GROUPINGS = '''
from kindshifts.groupings import block_around, flips, grouping_at, grouping_place, groupings, is_grouping, kind_of, kinds_of_blocks, left_tower, left_sum, many_groupings, mirrored, parts_of, put_within, right_tower, shared_blocks, side_by_side, tree_of, untied, within
from kindshifts.kinds import Kinds
even = Kinds({("e", "e"): "e", ("e", "o"): "o", ("o", "e"): "o", ("o", "o"): "e"})
row, one, two = ["o", "o", "o", "o"], [(0, 2), (0, 3), (0, 4)], [(0, 2), (0, 4), (2, 4)]
[is_grouping(4, one), is_grouping(3, one), is_grouping(1, []), kind_of(even, row, (0, 3)), kind_of(even, row, (1, 2)), kinds_of_blocks(even, row, one)]
# [True, False, True, 'o', 'o', ['e', 'o', 'e']]
[parts_of(one, (0, 4)), parts_of(two, (0, 4)), block_around(one, (0, 2)), block_around(one, (0, 4))]
# [((0, 3), (3, 4)), ((0, 2), (2, 4)), (0, 3), None]
[tree_of(even, row, one), untied(even, (("o", "o"), "e")), untied(even, "o")]
# [((('o', 'o'), 'o'), 'o'), (['o', 'o', 'e'], [(0, 2), (0, 3)]), (['o'], [])]
[groupings(3), many_groupings(5), grouping_at(4, 2), grouping_place([(0, 4), (1, 4), (2, 4)])]
# [[[(0, 2), (0, 3)], [(0, 3), (1, 3)]], 14, [(0, 3), (0, 4), (1, 3)], 4]
[left_tower(4) == one, right_tower(4), left_sum(one), left_sum(two), mirrored(one), within(one, (0, 3)), side_by_side([(0, 2)], [])]
# [True, [(0, 4), (1, 4), (2, 4)], 6, 4, [(0, 4), (1, 4), (2, 4)], [(0, 2), (0, 3)], [(0, 2), (0, 3)]]
[put_within(one, (0, 3), [(0, 3), (1, 3)]), shared_blocks(one, two), flips(one)]
# [[(0, 3), (0, 4), (1, 3)], [(0, 2), (0, 4)], [[(0, 2), (0, 4), (2, 4)], [(0, 3), (0, 4), (1, 3)]]]
'''

RULES = '''
from kindshifts.kinds import Kinds
from kindshifts.rules import Rule, all_triples, barring_deed, chain_back, chain_end, contrary, deed_triple, done, fitting_deeds, five_edges, five_parts, is_chain, let_deeds, mirrored_rule, rule_without, triples_used
even = Kinds({("e", "e"): "e", ("e", "o"): "o", ("o", "e"): "o", ("o", "o"): "e"})
seven, row = rule_without(Rule(even, all_triples(even)), [("o", "o", "o")]), ["o", "o", "o", "o"]
start = [(0, 2), (0, 3), (0, 4)]
[fitting_deeds(seven, row, start), let_deeds(seven, row, start), deed_triple(seven, row, ("right", 0, 2, 3, 4))]
# [[('right', 0, 1, 2, 3), ('right', 0, 2, 3, 4)], [('right', 0, 2, 3, 4)], ('e', 'o', 'o')]
[done(seven, row, start, ("right", 0, 2, 3, 4)), chain_end(seven, row, start, [("right", 0, 2, 3, 4), ("right", 0, 1, 2, 4)]), contrary(("left", 0, 1, 2, 4))]
# [[(0, 2), (0, 4), (2, 4)], [(0, 4), (1, 4), (2, 4)], ('right', 0, 1, 2, 4)]
[is_chain(seven, row, start, [(0, 3), (0, 4), (1, 3)], [("right", 0, 1, 2, 3)]), barring_deed(seven, row, start, [("right", 0, 2, 3, 4), ("left", 0, 2, 3, 4), ("right", 0, 1, 2, 3)]), triples_used(even, row, start, [("right", 0, 1, 2, 3), ("right", 0, 1, 3, 4)])]
# [False, 2, [('o', 'e', 'o'), ('o', 'o', 'o')]]
[five_edges(even, row), five_parts(seven, row)]
# [[('o', 'o', 'o'), ('o', 'e', 'o'), ('o', 'o', 'o'), ('e', 'o', 'o'), ('o', 'o', 'e')], [[0, 3, 4], [1, 2]]]
[chain_back([("right", 0, 2, 3, 4), ("right", 0, 1, 2, 4)]), mirrored_rule(seven) == seven, len(all_triples(even))]
# [[('left', 0, 1, 2, 4), ('left', 0, 2, 3, 4)], True, 8]
'''

JOINING = '''
from kindshifts.joining import all_classes, are_joined, class_count, class_of, farthest, fewest_deeds, idle_triples, is_shut_list, lone_groupings, many_shortest, needed_triples, parting_list, shortest_chain
from kindshifts.kinds import Kinds
from kindshifts.rules import Rule
even = Kinds({("e", "e"): "e", ("e", "o"): "o", ("o", "e"): "o", ("o", "o"): "e"})
rule = Rule(even, [("e", "e", "e"), ("e", "e", "o"), ("e", "o", "e"), ("e", "o", "o"), ("o", "e", "e"), ("o", "e", "o"), ("o", "o", "e")])
row = ["o", "o", "o", "o"]
zero, one, two = [(0, 2), (0, 3), (0, 4)], [(0, 3), (0, 4), (1, 3)], [(0, 4), (1, 3), (1, 4)]
three, four = [(0, 4), (1, 4), (2, 4)], [(0, 2), (0, 4), (2, 4)]
[class_of(rule, row, zero) == [zero, four, three], class_of(rule, row, one) == [one, two], class_count(rule, row), lone_groupings(rule, row), are_joined(rule, row, zero, one)]
# [True, True, 2, [], False]
[fewest_deeds(rule, row, zero, three), fewest_deeds(rule, row, zero, one), many_shortest(rule, row, zero, three), farthest(rule, row, four), shortest_chain(rule, row, one, two)]
# [2, None, 1, 1, [('right', 0, 1, 3, 4)]]
[parting_list(rule, row, one, zero) == [one, two], is_shut_list(rule, row, [zero, four]), is_shut_list(rule, row, []), len(all_classes(rule, ["o", "o", "o"]))]
# [True, False, True, 2]
[needed_triples(rule, row, zero, three), idle_triples(rule, row)]
# [[('e', 'o', 'o'), ('o', 'o', 'e')], [('e', 'e', 'e'), ('e', 'e', 'o'), ('e', 'o', 'e'), ('o', 'e', 'e')]]
'''

ENDING = '''
from kindshifts.ending import are_layers, balanced_lot, is_balanced_lot, is_round, layers_of, round_of, weight_of
from kindshifts.kinds import Kinds
from kindshifts.rules import Rule
even = Kinds({("e", "e"): "e", ("e", "o"): "o", ("o", "e"): "o", ("o", "o"): "e"})
two = Rule(even, [("e", "e", "e"), ("e", "o", "e")])
ways = {("e", "e", "e"): "right", ("e", "o", "e"): "left"}
layer = {("e", "e"): (0, 1, 0), ("e", "o"): (0, 0, 1), ("o", "e"): (0, 0, 1), ("o", "o"): (0, 0, 0)}
plain = {("e", "e"): (1, 0, 0), ("e", "o"): (1, 0, 0), ("o", "e"): (1, 0, 0), ("o", "o"): (1, 0, 0)}
[are_layers(two, ways, [layer]), are_layers(two, ways, [plain]), are_layers(two, ways, [plain, layer]), layers_of(two, ways) is None, balanced_lot(two, ways), round_of(two, ways, 4)]
# [True, False, True, False, None, None]
[weight_of(two, layer, ["e", "e", "e"], [(0, 2), (0, 3)]), weight_of(two, layer, ["e", "e", "e"], [(0, 3), (1, 3)]), weight_of(two, plain, ["e", "o", "e"], [(0, 2), (0, 3)])]
# [3, 2, 2]
odd = Rule(even, [("e", "o", "o"), ("o", "e", "o"), ("o", "o", "e"), ("o", "o", "o")])
about = {("e", "o", "o"): "left", ("o", "e", "o"): "right", ("o", "o", "e"): "left", ("o", "o", "o"): "right"}
start = [(0, 2), (0, 3), (0, 4)]
told = (["o", "o", "o", "o"], start, [("right", 0, 1, 2, 3), ("right", 0, 1, 3, 4), ("right", 1, 2, 3, 4), ("left", 0, 1, 2, 4), ("left", 0, 2, 3, 4)])
[is_round(odd, about, told), layers_of(odd, about), is_round(odd, about, (told[0], start, told[2][:4])), round_of(odd, about, 3)]
# [True, None, False, None]
is_balanced_lot(odd, about, {("e", "o", "o"): (1, 2, 1, 1), ("o", "e", "o"): (1, 1, 2, 1), ("o", "o", "e"): (1, 1, 1, 2), ("o", "o", "o"): (2, 2, 2, 2)})
# True
'''

LASTS = '''
from kindshifts.kinds import Kinds
from kindshifts.rules import Rule
from kindshifts.combing import Comb, all_lasts, is_last, last_ones, longest_combing, many_combings, meeting, open_deeds, right_comb, shortest_combing
from kindshifts.settled import is_settled, is_unsettled_four, is_unsettled_row, five_lasts, five_shifts, meeting_corner, parting_fours, settled_words
from kindshifts.lasts import joined_around, joined_by_lasts, joined_within, last_of, parting_block, put_together
even = Kinds({("e", "e"): "e", ("e", "o"): "o", ("o", "e"): "o", ("o", "o"): "e"})
triples = [(x, y, z) for x in "eo" for y in "eo" for z in "eo"]
row, first = ["o", "o", "o", "o"], [(0, 2), (0, 3), (0, 4)]
right = right_comb(Rule(even, triples))
[open_deeds(right, row, first), is_last(right, row, first), all_lasts(right, row), shortest_combing(right, row, first), longest_combing(right, row, first), many_combings(right, row, first)]
# [[('right', 0, 1, 2, 3), ('right', 0, 2, 3, 4)], False, [[(0, 4), (1, 4), (2, 4)]], 2, 3, 2]
[is_settled(right), settled_words(right.rule()), meeting(right, row, [(0, 3), (0, 4), (1, 3)], [(0, 2), (0, 4), (2, 4)]), meeting_corner(right, row, 0), meeting_corner(right, row, 1)]
# [True, ['left', 'right'], [(0, 4), (1, 4), (2, 4)], 3, None]
two = right_comb(Rule(even, [("e", "o", "o"), ("o", "o", "o")]))
[five_shifts(two.rule(), row), five_lasts(two, row), is_settled(two), settled_words(two.rule()), row in parting_fours(two), meeting_corner(two, row, 0)]
# [[(0, 1), (0, 4), (2, 3)], [[1, 4], [1], [3], [3], [4]], False, ['left'], True, None]
[is_unsettled_four(two, (row, 0)), is_unsettled_row(two, (row, [(0, 3), (0, 4), (1, 3)], [(0, 2), (0, 4), (2, 4)], [("left", 0, 1, 2, 3), ("right", 0, 2, 3, 4)]))]
# [True, True]
some = Rule(even, triples[:7])
arrows = dict([(triple, "left" if triple in [("o", "e", "o"), ("e", "e", "o")] else "right") for triple in some.triples()])
pairs = [(x, y) for x in "eo" for y in "eo"]
mixed = Comb(some, arrows, [dict([(pair, (int(pair == ("e", "o")), 0, 0)) for pair in pairs]), dict([(pair, (0, 1, 0)) for pair in pairs])])
[five_shifts(some, row), five_lasts(mixed, row), is_settled(mixed), settled_words(some), last_of(mixed, row, first), last_ones(mixed, row, first)]
# [[(0, 4), (1, 2), (4, 3)], [[3], [1], [1], [3], [3]], True, [], [(0, 4), (1, 4), (2, 4)], [[(0, 4), (1, 4), (2, 4)]]]
[joined_by_lasts(mixed, row, first, [(0, 3), (0, 4), (1, 3)]), parting_block(mixed, row, first, [(0, 3), (0, 4), (1, 3)]), put_together(mixed, row, [(0, 2)], [(0, 2)])]
# [False, (0, 3), [(0, 4), (1, 4), (2, 4)]]
joined_by_lasts(mixed, row, first, [(0, 2), (0, 4), (2, 4)])
# True
lesser = Kinds({("a", "a"): "a", ("a", "b"): "a", ("b", "a"): "a", ("b", "b"): "b"})
but = right_comb(Rule(lesser, [(x, y, z) for x in "ab" for y in "ab" for z in "ab" if (x, y, z) != ("a", "a", "b")]))
[is_settled(but), joined_by_lasts(but, ["a", "a", "b", "a"], first, [(0, 3), (0, 4), (1, 3)]), joined_within(but, ["a", "a", "b", "a"], (0, 3), first, [(0, 3), (0, 4), (1, 3)]), joined_around(but, ["a", "a", "b", "a"], (0, 3), first, [(0, 3), (0, 4), (1, 3)])]
# [True, True, False, True]
'''

NUMBERS = '''
from kindshifts.combing import Comb
from kindshifts.kinds import Kinds
from kindshifts.numbers import alike_numbers, always_last, class_number, is_most_row, is_one_class, last_at, last_place, lasts_with, most_classes, most_row, numbers_over_rows
from kindshifts.rules import Rule
even = Kinds({("e", "e"): "e", ("e", "o"): "o", ("o", "e"): "o", ("o", "o"): "e"})
some = Rule(even, [(x, y, z) for x in "eo" for y in "eo" for z in "eo" if "e" in (x, y, z)])
arrows = dict([(triple, "left" if triple in [("o", "e", "o"), ("e", "e", "o")] else "right") for triple in some.triples()])
layers = [dict([((x, y), (int((x, y) == ("e", "o")), 0, 0)) for x in "eo" for y in "eo"]), dict([((x, y), (0, 1, 0)) for x in "eo" for y in "eo"])]
comb = Comb(some, arrows, layers)
four, five = ["o", "o", "o", "o"], ["o", "o", "o", "o", "o"]
[class_number(comb, four), class_number(comb, five), is_one_class(comb, ["o", "e", "e", "o"]), alike_numbers(comb, "o", 7), alike_numbers(comb, "e", 4)]
# [2, 5, True, [1, 1, 2, 2, 5, 5, 14], [1, 1, 1, 1]]
[last_at(comb, four, 0), last_at(comb, five, 3), last_place(comb, five, [(0, 2), (0, 5), (2, 5), (3, 5)]), last_place(comb, four, [(0, 2), (0, 3), (0, 4)])]
# [[(0, 4), (1, 4), (2, 4)], [(0, 4), (0, 5), (1, 4), (2, 4)], 2, None]
[numbers_over_rows(comb, 3), numbers_over_rows(comb, 5), most_classes(comb, 4), most_row(comb, 5), is_most_row(comb, 4, ["o", "e", "o", "o"])]
# [{'e': 4, 'o': 5}, {'e': 21, 'o': 30}, 2, ['o', 'o', 'o', 'o', 'o'], True]
[lasts_with(comb, five, (0, 4)), lasts_with(comb, five, (0, 5)), always_last(comb, five)]
# [2, 5, [(0, 5)]]
'''

CLASSES = '''
from kindshifts.classes import block_numbers, class_at, class_place, class_size, classes_by_size, common_blocks, grouping_with, grouping_without, is_greatest_last, is_grouping_with, size_by_splits, splits_of
from kindshifts.combing import Comb
from kindshifts.kinds import Kinds
from kindshifts.rules import Rule
even = Kinds({("e", "e"): "e", ("e", "o"): "o", ("o", "e"): "o", ("o", "o"): "e"})
some = Rule(even, [(x, y, z) for x in "eo" for y in "eo" for z in "eo" if "e" in (x, y, z)])
arrows = dict([(triple, "left" if triple in [("o", "e", "o"), ("e", "e", "o")] else "right") for triple in some.triples()])
layers = [dict([((x, y), (int((x, y) == ("e", "o")), 0, 0)) for x in "eo" for y in "eo"]), dict([((x, y), (0, 1, 0)) for x in "eo" for y in "eo"])]
comb = Comb(some, arrows, layers)
four, five = ["o", "o", "o", "o"], ["o", "o", "o", "o", "o"]
[splits_of(comb, four, [(0, 2), (0, 3), (0, 4)]), class_size(comb, four, [(0, 2), (0, 3), (0, 4)]), splits_of(comb, four, [(0, 3), (0, 4), (1, 3)]), class_size(comb, four, [(0, 3), (0, 4), (1, 3)])]
# [[1, 2, 3], 3, [1, 3], 2]
[size_by_splits(comb, five, [(0, 5), (1, 5), (2, 5), (3, 5)]), classes_by_size(comb, five), classes_by_size(comb, four)]
# [{1: 3, 3: 1}, {2: 3, 4: 2}, {2: 1, 3: 1}]
[class_at(comb, four, [(0, 2), (0, 3), (0, 4)], 1), class_place(comb, four, [(0, 2), (0, 3), (0, 4)]), block_numbers(comb, four, [(0, 3), (0, 4), (1, 3)])]
# [[(0, 2), (0, 4), (2, 4)], 2, {(0, 3): 1, (0, 4): 2, (1, 3): 2, (1, 4): 1}]
[common_blocks(comb, four, [(0, 3), (0, 4), (1, 3)]), grouping_with(comb, four, [(0, 3), (0, 4), (1, 3)], (1, 4)), grouping_without(comb, four, [(0, 3), (0, 4), (1, 3)], (1, 3))]
# [[(0, 4), (1, 3)], [(0, 4), (1, 3), (1, 4)], None]
[is_grouping_with(comb, four, [(0, 3), (0, 4), (1, 3)], (1, 3), [(0, 3), (0, 4), (1, 3)]), is_greatest_last(comb, four, [(0, 4), (1, 4), (2, 4)]), is_greatest_last(comb, four, [(0, 3), (0, 4), (1, 3)])]
# [True, True, False]
'''

HULLS = '''
from kindshifts.hulls import many_settled, are_reasons, settled_within, force, hull, is_settled_to, is_opening, least_bases, opening, rounds, told_by_hulls
from kindshifts.kinds import Kinds
from kindshifts.rules import Rule
even = Kinds({("e", "e"): "e", ("e", "o"): "o", ("o", "e"): "o", ("o", "o"): "e"})
rule = Rule(even, [("e", "o", "o"), ("o", "o", "o")])
row, zero, two = ["o", "o", "o", "o"], [(0, 2), (0, 3), (0, 4)], [(0, 4), (1, 3), (1, 4)]
[is_settled_to(rule, "right"), is_settled_to(rule, "left"), is_opening(rule, "right", ["o", "o", "o", "o"]), is_opening(rule, "right", ["e", "e", "e", "e"]), opening(rule, "left")]
# [False, True, True, False, None]
[len(hull(rule, "right").triples()), hull(rule, "left") == rule, force(rule, "right", ["o", "o", "o", "o"]), force(rule, "left", ["o", "o", "o", "o"])]
# [8, True, [('o', 'e', 'o'), ('o', 'o', 'e')], []]
rounds(rule, "right")
# {('e', 'e', 'e'): 2, ('e', 'e', 'o'): 1, ('e', 'o', 'e'): 1, ('o', 'e', 'e'): 2, ('o', 'e', 'o'): 1, ('o', 'o', 'e'): 1}
[settled_within(rule, "right"), are_reasons(rule, "left", []), are_reasons(rule, "right", [(("o", "e", "o"), ["o", "o", "o", "o"])]), many_settled(even, "right")]
# [[[('e', 'o', 'o')], [('o', 'o', 'o')]], True, False, 51]
[told_by_hulls(rule, "right", row, zero, two), told_by_hulls(rule, "left", row, zero, two), told_by_hulls(rule, "right", row, zero, zero), least_bases(rule, "right")]
# ['open', 'apart', 'joined', [[('e', 'o', 'o'), ('o', 'o', 'o')]]]
'''

MARKS = '''
from kindshifts.kinds import Kinds
from kindshifts.marks import are_kept, are_kept_pairs, are_parting_weights, block_marks, changing_row, have_like_weights, is_changing_row, kept_count, parting_weights, sorts
from kindshifts.rules import Rule
even = Kinds({("e", "e"): "e", ("e", "o"): "o", ("o", "e"): "o", ("o", "o"): "e"})
lone, first = Rule(even, [("o", "e", "o")]), Rule(even, [("e", "e", "o")])
row = ["o", "o", "o", "o"]
[sorts(lone), sorts(first), block_marks(lone, row, [(0, 3), (0, 4), (1, 3)]), block_marks(lone, row, [(0, 2), (0, 4), (2, 4)]), block_marks(first, row, [(0, 2), (0, 4), (2, 4)])]
# [[['e'], ['o']], [['e', 'o']], [2, 1], [3, 0], [3]]
[are_kept(lone, {"e": 1, "o": 5}), are_kept(first, {"e": 1, "o": 5}), is_changing_row(first, {"e": 1, "o": 5}, ["e", "e", "o"]), changing_row(lone, {"e": 1, "o": 5})]
# [True, False, True, None]
[kept_count(lone), kept_count(Rule(even, [])), kept_count(first), are_kept_pairs(lone, {("e", "e"): 0, ("e", "o"): 3, ("o", "e"): 3, ("o", "o"): 7})]
# [3, 4, 3, True]
[have_like_weights(lone, row, [(0, 3), (0, 4), (1, 3)], [(0, 4), (1, 3), (1, 4)]), have_like_weights(lone, row, [(0, 2), (0, 3), (0, 4)], [(0, 2), (0, 4), (2, 4)])]
# [True, False]
are_parting_weights(lone, row, [(0, 2), (0, 3), (0, 4)], [(0, 2), (0, 4), (2, 4)], {("e", "e"): 1, ("e", "o"): 0, ("o", "e"): 0, ("o", "o"): 0})
# True
'''

ORDERS = '''
from kindshifts.kinds import Kinds
from kindshifts.orders import alike_kinds, alike_on, carries, cut_rule, folded_rule, folding, free_lists, is_finer, is_pulled, is_sorted_along, meet_rule, parting_pair, pulled_rule, pushed_rule, rest_rule, row_sent, still_lists, union_rule
from kindshifts.rules import Rule, all_triples, rule_without
even = Kinds({("e", "e"): "e", ("e", "o"): "o", ("o", "e"): "o", ("o", "o"): "e"})
every = Rule(even, all_triples(even))
seven, middle = rule_without(every, [("o", "o", "o")]), Rule(even, [("e", "e", "e"), ("e", "e", "o"), ("o", "e", "e"), ("o", "e", "o")])
[is_finer(middle, seven), is_finer(seven, middle), meet_rule(middle, seven) == middle, len(rest_rule(seven, middle).triples()), union_rule(middle, seven) == seven]
# [True, False, True, 3, True]
[alike_on(every, seven, ["o", "o"]), alike_on(every, seven, ["o", "o", "o"]), parting_pair(seven, every, ["o", "o", "e"])]
# [True, False, None]
four = Kinds({("a", "a"): "a", ("a", "b"): "b", ("b", "a"): "b", ("b", "b"): "a", ("a", "c"): "c", ("c", "a"): "c", ("a", "d"): "d", ("d", "a"): "d", ("b", "c"): "d", ("c", "b"): "d", ("b", "d"): "c", ("d", "b"): "c", ("c", "c"): "a", ("c", "d"): "b", ("d", "c"): "b", ("d", "d"): "a"})
sent = {"a": "e", "b": "o", "c": "e", "d": "o"}
deep = pulled_rule(seven, four, sent)
[len(deep.triples()), carries(deep, seven, sent), is_pulled(deep, seven, sent), pushed_rule(deep, even, sent) == seven, row_sent(four, ["a", "d"], sent)]
# [56, True, True, True, ['e', 'o']]
[alike_kinds(deep), folding(deep), len(folded_rule(deep).triples()), alike_kinds(seven), alike_kinds(every), is_sorted_along(every, [["e"], ["o"]])]
# [[['a', 'c'], ['b', 'd']], {'a': 'a', 'b': 'b', 'c': 'a', 'd': 'b'}, 7, [['e'], ['o']], [['e', 'o']], True]
[free_lists(deep), still_lists(deep), still_lists(Rule(even, [("o", "o", "o")])), cut_rule(deep, ["c", "a"]).triples() == all_triples(cut_rule(deep, ["a", "c"]).kinds())]
# [[['a'], ['a', 'c']], [], [['e']], True]
'''

NOUGHTS = '''
from kindshifts.kinds import Kinds
from kindshifts.noughts import alike_in_noughts, are_noughts, combing_deeds, is_free, neutral_comb, is_nought_chain, is_nought_last, joining_places, nought_classes, nought_deeds, nought_joined, nought_last, nought_lasts, nought_stretches, row_with
row, pairs, nest, low = [1, -1, 1, -1], [(0, 2), (0, 4), (2, 4)], [(0, 4), (1, 3), (1, 4)], [(0, 2), (0, 3), (0, 4)]
[nought_stretches(row), nought_deeds(row, ["a"], low), nought_deeds(row, ["a", "b", "c"], nest), nought_deeds(row, ["b"], low)]
# [[(0, 2), (0, 4), (1, 3), (2, 4)], [('right', 0, 2, 3, 4)], [('left', 0, 1, 3, 4)], []]
[combing_deeds(row, ["a"], low), nought_last(row, ["a"], low), combing_deeds(row, ["a", "b", "c"], nest), nought_last(row, ["a", "b", "c"], nest), is_nought_last(row, ["b"], nest)]
# [[('right', 0, 2, 3, 4)], [(0, 2), (0, 4), (2, 4)], [('left', 0, 1, 3, 4)], [(0, 3), (0, 4), (1, 3)], True]
[nought_joined(row, ["a", "b", "c"], low, pairs), nought_joined(row, ["a", "b", "c"], low, nest), is_nought_chain(row, ["a"], low, pairs, [("right", 0, 2, 3, 4)]), joining_places(row, low, pairs)]
# [True, False, True, [['a'], ['a', 'b'], ['a', 'b', 'c'], ['a', 'b', 'c', 'whole'], ['a', 'c']]]
[nought_classes(row, ["a", "b", "c"]), nought_lasts(row, ["a", "b", "c"]), nought_classes(row, ["a"])]
# [2, [[(0, 3), (0, 4), (1, 3)], [(0, 4), (1, 4), (2, 4)]], 4]
[is_free([0, 0, 5], ["a"]), alike_in_noughts([1, -1, 2], [5, -5, 1]), are_noughts(3, [(0, 1), (1, 2)]), are_noughts(2, [(0, 2)]), nought_stretches(row_with(2, [(0, 2)]))]
# [True, True, False, True, [(0, 2)]]
even = Kinds({("e", "e"): "e", ("e", "o"): "o", ("o", "e"): "o", ("o", "o"): "e"})
[neutral_comb(even, ["b"]).rule().triples(), neutral_comb(even, ["a", "c"]).arrows()[("e", "e", "o")], neutral_comb(even, ["a", "c"]).arrows()[("o", "e", "e")]]
# [[('e', 'e', 'e'), ('e', 'e', 'o'), ('o', 'e', 'e'), ('o', 'e', 'o')], 'left', 'right']
'''

BONDS = '''
from kindshifts.bonds import always_bonds, are_bonds, bonds_at, bonds_of, bonds_place, ever_bonds, grouped_by, many_bonds, pieces_of
row = [1, -1, 1, -1]
[bonds_of(row, [(0, 2), (0, 3), (0, 4)]), bonds_of(row, [(0, 2), (0, 4), (2, 4)]), bonds_of(row, [(0, 4), (1, 3), (1, 4)]), bonds_of([0, 0], [(0, 2)])]
# [[(0, 2), (2, 4)], [(0, 2), (2, 4)], [(0, 4), (1, 3)], []]
[are_bonds(row, [(0, 4), (1, 3)]), are_bonds(row, [(0, 2)]), are_bonds(row, [(0, 2), (1, 3)]), are_bonds([1, 2, 0], [(0, 2)]), are_bonds([1, 2, 0], [(0, 3)])]
# [True, False, False, True, False]
[bonds_of([1, 0, 2], [(0, 2), (0, 3)]), bonds_of([1, 1, 2, 0], [(0, 4), (1, 4), (2, 4)]), pieces_of(row, [(0, 4), (1, 3)], (0, 4)), many_bonds(row), many_bonds([1, -1] * 6)]
# [[(0, 3)], [(0, 3), (1, 3)], [(0, 1), (1, 3), (3, 4)], 2, 132]
[bonds_at(row, 1), bonds_place(row, [(0, 4), (1, 3)]), bonds_of(row, grouped_by(row, [(0, 4), (1, 3)])), always_bonds([3, -3]), ever_bonds(row)]
# [[(0, 4), (1, 3)], 1, [(0, 4), (1, 3)], [(0, 2)], [(0, 2), (0, 4), (1, 3), (2, 4)]]
'''

EDITIONS = '''
from kindshifts.editions import like_rows, changed, changed_by, join_counts, joining_lots, parting_lots
from kindshifts.kinds import Kinds
from kindshifts.rules import Rule
even = Kinds({("e", "e"): "e", ("e", "o"): "o", ("o", "e"): "o", ("o", "o"): "e"})
seven = Rule(even, [(a, b, c) for a in "eo" for b in "eo" for c in "eo" if (a, b, c) != ("o", "o", "o")])
row, left, right = ["o", "o", "o", "o"], [(0, 2), (0, 3), (0, 4)], [(0, 4), (1, 4), (2, 4)]
[len(changed(seven, row, ("bar", ("e", "o", "o")))[0].triples()), changed(seven, row, ("thing", 0, "e"))[1]]
# [6, ['e', 'o', 'o', 'o']]
[join_counts(seven, row, []), join_counts(seven, row, [("bar", ("e", "o", "o"))]), join_counts(seven, row, [("let", ("o", "o", "o"))])]
# [(4, 0, 0), (2, 2, 0), (4, 0, 6)]
changes = [("bar", ("e", "o", "o")), ("bar", ("o", "o", "e")), ("let", ("o", "o", "o"))]
[parting_lots(seven, row, changes, left, right), joining_lots(seven, row, changes, left, [(0, 3), (0, 4), (1, 3)]), joining_lots(seven, row, changes, left, right)]
# [[[0], [1]], [[2]], [[]]]
[like_rows(seven, row, [row, ["e", "o", "o", "o"]]), changed_by(seven, row, [("thing", 0, "e"), ("thing", 0, "o")])[1]]
# [[0], ['o', 'o', 'o', 'o']]
'''

SHELF = '''
from kindshifts.kinds import Kinds
from kindshifts.combing import Comb
from kindshifts.rules import Rule
from kindshifts.shelf import Shelf, replayed
even = Kinds({("e", "e"): "e", ("e", "o"): "o", ("o", "e"): "o", ("o", "o"): "e"})
middle = [("e", "e", "e"), ("e", "e", "o"), ("o", "e", "e"), ("o", "e", "o")]
lengths = {pair: (0, 1, 0) for pair in even.table()}
comb = Comb(Rule(even, middle), {triple: "right" for triple in middle}, [lengths])
shelf = Shelf(comb)
[shelf.put(["o", "e", "o"], [(0, 2), (0, 3)]), shelf.deeds(0), shelf.last_there(0), shelf.wish(0, [(0, 3), (1, 3)]), shelf.is_met(0), shelf.comb_once(0), shelf.is_met(0)]
# [0, [('right', 0, 1, 2, 3)], [(0, 3), (1, 3)], None, False, ('right', 0, 1, 2, 3), True]
[shelf.put(["o", "o"], [(0, 2)]), shelf.unwish(0), shelf.link(0, 1), shelf.spots(), shelf.row_there(0), shelf.grouping_there(0), shelf.deeds(0)]
# [1, None, None, [0], ['o', 'e', 'o', 'o', 'o'], [(0, 3), (0, 5), (1, 3), (3, 5)], [('left', 0, 1, 2, 3)]]
[shelf.part(0), shelf.grouping_there(0), shelf.row_there(2), shelf.undo(), shelf.spots(), shelf.redo(), shelf.regroup(0, [(0, 2), (0, 3)]), shelf.way(0)]
# [2, [(0, 3), (1, 3)], ['o', 'o'], None, [0], None, None, []]
[len(shelf.log()), replayed(Shelf(comb), shelf.log()).spots()]
# [8, [0, 2]]
'''

SCRIPTS = r'''
from kindshifts.combing import Comb
from kindshifts.kinds import Kinds
from kindshifts.rules import Rule
from kindshifts.scripts import end_of, play, read_script, script_text, shortened
from kindshifts.shelf import Shelf
even = Kinds({("e", "e"): "e", ("e", "o"): "o", ("o", "e"): "o", ("o", "o"): "e"})
middle = Rule(even, [("e", "e", "e"), ("e", "e", "o"), ("o", "e", "e"), ("o", "e", "o")])
comb = Comb(middle, {triple: "right" for triple in middle.triples()}, [{(a, b): (0, 1, 0) for a in "eo" for b in "eo"}])
left = [(0, 2), (0, 3)]
day = [("put", ["o", "e", "o"], left), ("deeds", 0), ("comb_once", 0), ("comb_once", 0), ("wish", 0, left), ("try", [("shift", 0, ("left", 0, 1, 2, 3))]), ("met", 0)]
play(Shelf(comb), day)
# [('put', 0), ('deeds', [('right', 0, 1, 2, 3)]), ('combed', ('right', 0, 1, 2, 3)), ('refused', 'Refused'), ('done',), ('tried', [('done',)]), ('met', False)]
[end_of(comb, day) == {0: (["o", "e", "o"], [(0, 3), (1, 3)], left)}, read_script(script_text(day)) == day]
# [True, True]
script_text([("put", ["o"], []), ("shift", 0, ("left", 0, 1, 2, 3)), ("wish", 0, [(0, 2)]), ("try", [])])
# 'put o\nend\nshift 0 left 0 1 2 3\nwish 0\n  0 2\nend\ntry\nend'
shortened(comb, [("put", ["o"], []), ("deeds", 0), ("undo",), ("redo",)]) == [("put", ["o"], []), ("redo",)]
# True
'''

PAPERS = r'''
from kindshifts.kinds import Kinds, first_kinds
from kindshifts.papers import chain_text, change_text, grouping_text, kinds_text, read_chain, read_change, read_grouping, read_kinds, read_rule, rule_text
from kindshifts.rules import Rule
ab = first_kinds(["a", "b"])
[kinds_text(ab), read_kinds("z z = z").kinds(), rule_text(Rule(first_kinds(["z"]), [("z", "z", "z")])), read_rule("z z = z\nlet").triples()]
# ['a a = a\na b = a\nb a = b\nb b = b', ['z'], 'z z = z\nlet\nz z z', []]
[grouping_text([(0, 2), (0, 3)]), read_grouping(""), chain_text([("right", 0, 1, 2, 3)]), read_chain("left 0 1 2 12")]
# ['0 2\n0 3', [], 'right 0 1 2 3', [('left', 0, 1, 2, 12)]]
[change_text(("let", ("a", "b", "a"))), read_change("thing 0 b"), read_change("bar a a a")]
# ['let a b a', ('thing', 0, 'b'), ('bar', ('a', 'a', 'a'))]
'''


def run_examples(test, text):
    """Runs the lines, and compares what stands ahead of a line `# ..` with it."""
    lines, names, compared = text.strip().split("\n"), {}, 0
    for line, behind in zip(lines, lines[1:] + [""]):
        if behind.startswith("# "):
            with test.subTest(line=line):
                test.assertEqual(repr(eval(line, names)), behind[2:])
            compared += 1
        elif not line.startswith("# "):
            exec(line, names)
    return compared


class Examples(unittest.TestCase):
    def test_section_3_kinds(self):
        self.assertEqual(run_examples(self, KINDS), 4)

    def test_section_4_groupings(self):
        self.assertEqual(run_examples(self, GROUPINGS), 6)

    def test_section_5_rules(self):
        self.assertEqual(run_examples(self, RULES), 5)

    def test_section_6_joining(self):
        self.assertEqual(run_examples(self, JOINING), 4)

    def test_section_8_ending(self):
        self.assertEqual(run_examples(self, ENDING), 4)

    def test_section_10_lasts(self):
        self.assertEqual(run_examples(self, LASTS), 8)

    def test_section_11_numbers(self):
        self.assertEqual(run_examples(self, NUMBERS), 4)

    def test_section_12_classes(self):
        self.assertEqual(run_examples(self, CLASSES), 5)

    def test_section_13_hulls(self):
        self.assertEqual(run_examples(self, HULLS), 5)

    def test_section_14_marks(self):
        self.assertEqual(run_examples(self, MARKS), 5)

    def test_section_15_orders(self):
        self.assertEqual(run_examples(self, ORDERS), 5)

    def test_section_16_noughts(self):
        self.assertEqual(run_examples(self, NOUGHTS), 6)

    def test_section_17_bonds(self):
        self.assertEqual(run_examples(self, BONDS), 4)

    def test_section_18_editions(self):
        self.assertEqual(run_examples(self, EDITIONS), 4)

    def test_section_19_shelf(self):
        self.assertEqual(run_examples(self, SHELF), 4)

    def test_section_20_scripts(self):
        self.assertEqual(run_examples(self, SCRIPTS), 4)

    def test_section_21_papers(self):
        self.assertEqual(run_examples(self, PAPERS), 3)


if __name__ == "__main__":
    unittest.main()
