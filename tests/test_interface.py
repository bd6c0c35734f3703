"""The interface: names, parameters, and the files that define them ([1])."""

import importlib
import inspect
import unittest

FUNCTIONS = {
    "kinds": ["is_kind(value)", "is_plain_table(value)", "is_table(value)", "unlike_three(table)",
              "put_all(kinds, row)", "first_kinds(names)", "last_kinds(names)", "greatest_kinds(names)",
              "ring_kinds(names)", "opposite(kinds)", "renamed(kinds, sent)", "closed_lists(kinds)",
              "closed_by(kinds, names)", "cut_to(kinds, names)",
              "is_map(one, other, value)", "all_maps(one, other)", "image_of(one, other, sent)",
              "alike_map(one, other)", "neutral(kinds)", "is_even_handed(kinds)"],
    "groupings": ["is_row(kinds, value)", "is_grouping(size, value)", "kind_of(kinds, row, some)",
                  "parts_of(grouping, block)", "block_around(grouping, block)", "kinds_of_blocks(kinds, row, grouping)",
                  "tree_of(kinds, row, grouping)", "untied(kinds, tree)", "groupings(size)", "many_groupings(size)",
                  "grouping_at(size, number)", "grouping_place(grouping)", "left_tower(size)", "right_tower(size)",
                  "left_sum(grouping)", "mirrored(grouping)", "within(grouping, block)", "side_by_side(one, other)",
                  "put_within(grouping, block, inner)", "shared_blocks(one, other)", "flips(grouping)"],
    "rules": ["all_triples(kinds)", "barring_deed(rule, row, grouping, chain)", "chain_back(chain)",
              "chain_end(rule, row, grouping, chain)", "contrary(deed)", "deed_triple(rule, row, deed)",
              "done(rule, row, grouping, deed)", "fitting_deeds(rule, row, grouping)", "five_edges(kinds, four)",
              "five_parts(rule, four)", "is_chain(rule, row, one, other, value)", "let_deeds(rule, row, grouping)",
              "mirrored_rule(rule)", "rule_by_places(kinds, firsts, seconds, thirds)", "rule_with(rule, triples)",
              "rule_without(rule, triples)", "triples_used(kinds, row, grouping, chain)"],
}
CLASSES = {
    "kinds": {"Kinds": ["__init__(self, table)", "__eq__(self, other)", "table(self)", "kinds(self)",
                        "put(self, first, second)"]},
    "rules": {"Rule": ["__init__(self, kinds, triples)", "__eq__(self, other)", "kinds(self)", "triples(self)"]},
}


class Interface(unittest.TestCase):
    def test_functions(self):
        for name, signatures in FUNCTIONS.items():
            module = importlib.import_module("kindshifts." + name)
            for signature in signatures:
                with self.subTest(module=name, signature=signature):
                    function = getattr(module, signature.partition("(")[0])
                    self.assertTrue(inspect.isfunction(function))
                    self.assertEqual(function.__module__, module.__name__)
                    self.assertEqual(function.__name__ + str(inspect.signature(function)), signature)

    def test_classes_define_their_methods(self):
        for name, classes in CLASSES.items():
            module = importlib.import_module("kindshifts." + name)
            for title, signatures in classes.items():
                made = getattr(module, title)
                self.assertEqual(made.__module__, module.__name__)
                for signature in signatures:
                    with self.subTest(module=name, title=title, signature=signature):
                        method = vars(made)[signature.partition("(")[0]]
                        self.assertEqual(method.__name__ + str(inspect.signature(method)), signature)


if __name__ == "__main__":
    unittest.main()
