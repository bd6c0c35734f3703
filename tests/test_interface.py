"""The interface: names, parameters, and the files that define them ([1])."""

import importlib
import inspect
import unittest

FUNCTIONS = {
    "kinds": ["is_kind(value)", "is_plain_table(value)", "is_table(value)", "unlike_three(table)",
              "put_all(kinds, row)", "first_kinds(names)", "last_kinds(names)", "greatest_kinds(names)",
              "ring_kinds(names)", "opposite(kinds)", "renamed(kinds, sent)", "closed_lists(kinds)",
              "closed_by(kinds, names)", "cut_to(kinds, names)",
              "is_map(one, other, value)", "all_maps(one, other)", "image_of(one, other, sent)",
              "alike_map(one, other)", "neutral(kinds)", "is_even_handed(kinds)"],
    "groupings": ["is_row(kinds, value)", "is_grouping(size, value)", "kind_of(kinds, row, some)",
                  "parts_of(grouping, block)", "block_around(grouping, block)", "kinds_of_blocks(kinds, row, grouping)",
                  "tree_of(kinds, row, grouping)", "untied(kinds, tree)", "groupings(size)", "many_groupings(size)",
                  "grouping_at(size, number)", "grouping_place(grouping)", "left_tower(size)", "right_tower(size)",
                  "left_sum(grouping)", "mirrored(grouping)", "within(grouping, block)", "side_by_side(one, other)",
                  "put_within(grouping, block, inner)", "shared_blocks(one, other)", "flips(grouping)"],
    "rules": ["all_triples(kinds)", "barring_deed(rule, row, grouping, chain)", "chain_back(chain)",
              "chain_end(rule, row, grouping, chain)", "contrary(deed)", "deed_triple(rule, row, deed)",
              "done(rule, row, grouping, deed)", "fitting_deeds(rule, row, grouping)", "five_edges(kinds, four)",
              "five_parts(rule, four)", "is_chain(rule, row, one, other, value)", "let_deeds(rule, row, grouping)",
              "mirrored_rule(rule)", "rule_by_places(kinds, firsts, seconds, thirds)", "rule_with(rule, triples)",
              "rule_without(rule, triples)", "triples_used(kinds, row, grouping, chain)"],
    "joining": ["are_joined(rule, row, one, other)", "class_of(rule, row, grouping)", "all_classes(rule, row)",
                "class_count(rule, row)", "lone_groupings(rule, row)", "joined_by_all(rule, row)",
                "fewest_deeds(rule, row, one, other)", "shortest_chain(rule, row, one, other)",
                "is_shortest_chain(rule, row, one, other, value)", "many_shortest(rule, row, one, other)",
                "is_shut_list(rule, row, value)", "parting_list(rule, row, one, other)",
                "is_parting_list(rule, row, one, other, value)", "farthest(rule, row, grouping)",
                "farthest_groupings(rule, row, grouping)", "widest(rule, row)",
                "needed_triples(rule, row, one, other)", "idle_triples(rule, row)"],
    "combing": ["are_arrows(rule, value)", "right_comb(rule)", "left_comb(rule)", "open_deeds(comb, row, grouping)",
                "is_last(comb, row, grouping)", "combing(comb, row, grouping)",
                "is_combing(comb, row, grouping, value)", "last_ones(comb, row, grouping)", "all_lasts(comb, row)",
                "shortest_combing(comb, row, grouping)", "longest_combing(comb, row, grouping)",
                "many_combings(comb, row, grouping)", "meeting(comb, row, one, other)",
                "is_meeting(comb, row, one, other, value)"],
    "ending": ["are_layers(rule, arrows, value)", "weight_of(rule, layer, row, grouping)", "layers_of(rule, arrows)",
               "balanced_lot(rule, arrows)", "is_balanced_lot(rule, arrows, value)", "round_of(rule, arrows, size)",
               "is_round(rule, arrows, value)"],
    "settled": ["is_settled(comb)", "settled_words(rule)", "five_shifts(rule, four)", "five_lasts(comb, four)",
                "unsettled_four(comb)", "is_unsettled_four(comb, value)", "unsettled_fours(comb)",
                "unsettled_row(comb)", "is_unsettled_row(comb, value)", "parting_fours(comb)",
                "meeting_corner(comb, four, corner)"],
    "lasts": ["last_of(comb, row, grouping)", "joined_by_lasts(comb, row, one, other)",
              "parting_block(comb, row, one, other)", "chain_by_lasts(comb, row, one, other)",
              "put_together(comb, row, one, other)", "exchanged_last(comb, row, place, kind, grouping)",
              "still_joined(comb, row, place, kind, one, other)", "joined_within(comb, row, block, one, other)",
              "joined_around(comb, row, block, one, other)", "joined_keeping(comb, row, block, one, other)"],
    "numbers": ["class_number(comb, row)", "is_one_class(comb, row)", "last_at(comb, row, number)",
                "last_place(comb, row, grouping)", "alike_numbers(comb, kind, size)", "numbers_over_rows(comb, size)",
                "most_classes(comb, size)", "most_row(comb, size)", "is_most_row(comb, size, value)",
                "lasts_with(comb, row, block)", "always_last(comb, row)"],
    "classes": ["splits_of(comb, row, grouping)", "class_size(comb, row, grouping)",
                "size_by_splits(comb, row, grouping)", "class_at(comb, row, grouping, number)",
                "class_place(comb, row, grouping)", "block_numbers(comb, row, grouping)",
                "common_blocks(comb, row, grouping)", "grouping_with(comb, row, grouping, block)",
                "is_grouping_with(comb, row, grouping, block, value)", "grouping_without(comb, row, grouping, block)",
                "is_grouping_without(comb, row, grouping, block, value)", "classes_by_size(comb, row)",
                "greatest_last(comb, row)", "is_greatest_last(comb, row, value)"],
    "hulls": ["is_settled_to(rule, word)", "opening(rule, word)", "is_opening(rule, word, value)", "hull(rule, word)",
              "both_hull(rule)", "reasons(rule, word)", "are_reasons(rule, word, value)", "rounds(rule, word)",
              "force(rule, word, four)", "settled_within(rule, word)", "least_bases(rule, word)",
              "many_settled(kinds, word)", "told_by_hulls(rule, word, row, one, other)",
              "through(rule, row, grouping)", "is_through(rule, row, grouping, value)"],
    "marks": ["sorts(rule)", "block_marks(rule, row, grouping)", "are_kept(rule, weights)",
              "changing_row(rule, weights)", "is_changing_row(rule, weights, value)", "are_kept_pairs(rule, weights)",
              "kept_count(rule)", "parting_weights(rule, row, one, other)",
              "are_parting_weights(rule, row, one, other, value)", "have_like_weights(rule, row, one, other)"],
    "orders": ["alike_kinds(rule)", "alike_on(one, other, row)", "carries(one, other, sent)", "cut_rule(rule, names)",
               "folded_rule(rule)", "folding(rule)", "free_lists(rule)", "is_finer(one, other)",
               "is_parting_pair(one, other, row, value)", "is_pulled(one, other, sent)", "is_sorted_along(rule, value)",
               "meet_rule(one, other)", "parting_pair(one, other, row)", "pulled_rule(rule, kinds, sent)",
               "pushed_rule(rule, kinds, sent)", "rest_rule(one, other)", "row_sent(kinds, row, sent)",
               "still_lists(rule)", "union_rule(one, other)"],
    "noughts": ["nought_stretches(row)", "nought_deeds(row, places, grouping)", "combing_deeds(row, places, grouping)",
                "nought_last(row, places, grouping)", "is_nought_last(row, places, value)",
                "nought_joined(row, places, one, other)", "nought_chain(row, places, one, other)",
                "is_nought_chain(row, places, one, other, value)", "nought_classes(row, places)",
                "nought_lasts(row, places)", "joining_places(row, one, other)", "is_free(row, places)",
                "neutral_comb(kinds, places)", "alike_in_noughts(row, other)", "are_noughts(size, value)",
                "row_with(size, stretches)"],
    "bonds": ["bonds_of(row, grouping)", "are_bonds(row, value)", "pieces_of(row, bonds, stretch)",
              "grouped_by(row, bonds)", "many_bonds(row)", "bonds_at(row, number)", "bonds_place(row, bonds)",
              "always_bonds(row)", "ever_bonds(row)"],
    "editions": ["changed(rule, row, change)", "changed_by(rule, row, changes)", "join_counts(rule, row, changes)",
                 "parting_lots(rule, row, changes, one, other)", "joining_lots(rule, row, changes, one, other)",
                 "like_rows(rule, row, others)"],
    "scripts": ["play(shelf, script)", "script_text(script)", "read_script(text)", "end_of(comb, script)",
                "shortened(comb, script)"],
    "papers": ["kinds_text(kinds)", "read_kinds(text)", "rule_text(rule)", "read_rule(text)", "grouping_text(grouping)",
               "read_grouping(text)", "chain_text(chain)", "read_chain(text)", "change_text(change)",
               "read_change(text)"],
    "shelf": ["replayed(shelf, log)"],
}
CLASSES = {
    "kinds": {"Kinds": ["__init__(self, table)", "__eq__(self, other)", "table(self)", "kinds(self)",
                        "put(self, first, second)"]},
    "combing": {"Comb": ["__init__(self, rule, arrows, layers)", "__eq__(self, other)", "rule(self)", "arrows(self)",
                         "layers(self)"]},
    "shelf": {"Shelf": ["__init__(self, comb)", "put(self, row, grouping)", "take(self, spot)", "spots(self)",
                        "row_there(self, spot)", "grouping_there(self, spot)", "wish_there(self, spot)",
                        "shift(self, spot, deed)", "deeds(self, spot)", "comb_once(self, spot)",
                        "last_there(self, spot)", "wish(self, spot, grouping)", "unwish(self, spot)",
                        "is_met(self, spot)", "way(self, spot)", "is_way(self, spot, value)",
                        "regroup(self, spot, grouping)", "link(self, one, other)", "part(self, spot)", "undo(self)",
                        "redo(self)", "trial(self)", "attempt(self, action)", "copy(self)", "log(self)"]},
    "rules": {"Rule": ["__init__(self, kinds, triples)", "__eq__(self, other)", "kinds(self)", "triples(self)"]},
}


class Interface(unittest.TestCase):
    def test_functions(self):
        for name, signatures in FUNCTIONS.items():
            module = importlib.import_module("kindshifts." + name)
            for signature in signatures:
                with self.subTest(module=name, signature=signature):
                    function = getattr(module, signature.partition("(")[0])
                    self.assertTrue(inspect.isfunction(function))
                    self.assertEqual(function.__module__, module.__name__)
                    self.assertEqual(function.__name__ + str(inspect.signature(function)), signature)

    def test_classes_define_their_methods(self):
        for name, classes in CLASSES.items():
            module = importlib.import_module("kindshifts." + name)
            for title, signatures in classes.items():
                made = getattr(module, title)
                self.assertEqual(made.__module__, module.__name__)
                for signature in signatures:
                    with self.subTest(module=name, title=title, signature=signature):
                        method = vars(made)[signature.partition("(")[0]]
                        self.assertEqual(method.__name__ + str(inspect.signature(method)), signature)


if __name__ == "__main__":
    unittest.main()
