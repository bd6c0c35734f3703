"""The examples of the document, as it prints them."""

import unittest

KINDS = '''
from kindshifts.kinds import Kinds, alike_map, all_maps, closed_by, closed_lists, cut_to, first_kinds, greatest_kinds, image_of, is_even_handed, is_map, is_plain_table, is_table, last_kinds, neutral, opposite, put_all, renamed, ring_kinds, unlike_three
even = Kinds({("e", "e"): "e", ("e", "o"): "o", ("o", "e"): "o", ("o", "o"): "e"})
odd = {("a", "a"): "b", ("a", "b"): "a", ("b", "a"): "b", ("b", "b"): "a"}
[even.kinds(), even.put("o", "o"), put_all(even, ["o", "o", "o"]), is_plain_table(odd), is_table(odd), unlike_three(odd)]
# [['e', 'o'], 'e', 'o', True, False, ('a', 'a', 'a')]
[ring_kinds(["e", "o"]) == even, opposite(first_kinds(["a", "b"])) == last_kinds(["b", "a"]), greatest_kinds(["b", "a"]).put("a", "b"), neutral(even)]
# [True, True, 'a', 'e']
[closed_lists(even), closed_by(even, ["o"]), cut_to(even, ["e"]).table(), is_even_handed(first_kinds(["a", "b"]))]
# [[['e'], ['e', 'o']], ['e', 'o'], {('e', 'e'): 'e'}, False]
[all_maps(even, even), is_map(even, even, {"e": "o", "o": "o"}), image_of(even, even, {"e": "e", "o": "e"}), alike_map(even, renamed(even, {"e": "o", "o": "e"}))]
# [[{'e': 'e', 'o': 'e'}, {'e': 'e', 'o': 'o'}], False, ['e'], {'e': 'o', 'o': 'e'}]
'''

GROUPINGS = '''
from kindshifts.groupings import block_around, flips, grouping_at, grouping_place, groupings, is_grouping, kind_of, kinds_of_blocks, left_tower, left_sum, many_groupings, mirrored, parts_of, put_within, right_tower, shared_blocks, side_by_side, tree_of, untied, within
from kindshifts.kinds import Kinds
even = Kinds({("e", "e"): "e", ("e", "o"): "o", ("o", "e"): "o", ("o", "o"): "e"})
row, one, two = ["o", "o", "o", "o"], [(0, 2), (0, 3), (0, 4)], [(0, 2), (0, 4), (2, 4)]
[is_grouping(4, one), is_grouping(3, one), is_grouping(1, []), kind_of(even, row, (0, 3)), kind_of(even, row, (1, 2)), kinds_of_blocks(even, row, one)]
# [True, False, True, 'o', 'o', ['e', 'o', 'e']]
[parts_of(one, (0, 4)), parts_of(two, (0, 4)), block_around(one, (0, 2)), block_around(one, (0, 4))]
# [((0, 3), (3, 4)), ((0, 2), (2, 4)), (0, 3), None]
[tree_of(even, row, one), untied(even, (("o", "o"), "e")), untied(even, "o")]
# [((('o', 'o'), 'o'), 'o'), (['o', 'o', 'e'], [(0, 2), (0, 3)]), (['o'], [])]
[groupings(3), many_groupings(5), grouping_at(4, 2), grouping_place([(0, 4), (1, 4), (2, 4)])]
# [[[(0, 2), (0, 3)], [(0, 3), (1, 3)]], 14, [(0, 3), (0, 4), (1, 3)], 4]
[left_tower(4) == one, right_tower(4), left_sum(one), left_sum(two), mirrored(one), within(one, (0, 3)), side_by_side([(0, 2)], [])]
# [True, [(0, 4), (1, 4), (2, 4)], 6, 4, [(0, 4), (1, 4), (2, 4)], [(0, 2), (0, 3)], [(0, 2), (0, 3)]]
[put_within(one, (0, 3), [(0, 3), (1, 3)]), shared_blocks(one, two), flips(one)]
# [[(0, 3), (0, 4), (1, 3)], [(0, 2), (0, 4)], [[(0, 2), (0, 4), (2, 4)], [(0, 3), (0, 4), (1, 3)]]]
'''

RULES = '''
from kindshifts.kinds import Kinds
from kindshifts.rules import Rule, all_triples, barring_deed, chain_back, chain_end, contrary, deed_triple, done, fitting_deeds, five_edges, five_parts, is_chain, let_deeds, mirrored_rule, rule_without, triples_used
even = Kinds({("e", "e"): "e", ("e", "o"): "o", ("o", "e"): "o", ("o", "o"): "e"})
seven, row = rule_without(Rule(even, all_triples(even)), [("o", "o", "o")]), ["o", "o", "o", "o"]
start = [(0, 2), (0, 3), (0, 4)]
[fitting_deeds(seven, row, start), let_deeds(seven, row, start), deed_triple(seven, row, ("right", 0, 2, 3, 4))]
# [[('right', 0, 1, 2, 3), ('right', 0, 2, 3, 4)], [('right', 0, 2, 3, 4)], ('e', 'o', 'o')]
[done(seven, row, start, ("right", 0, 2, 3, 4)), chain_end(seven, row, start, [("right", 0, 2, 3, 4), ("right", 0, 1, 2, 4)]), contrary(("left", 0, 1, 2, 4))]
# [[(0, 2), (0, 4), (2, 4)], [(0, 4), (1, 4), (2, 4)], ('right', 0, 1, 2, 4)]
[is_chain(seven, row, start, [(0, 3), (0, 4), (1, 3)], [("right", 0, 1, 2, 3)]), barring_deed(seven, row, start, [("right", 0, 2, 3, 4), ("left", 0, 2, 3, 4), ("right", 0, 1, 2, 3)]), triples_used(even, row, start, [("right", 0, 1, 2, 3), ("right", 0, 1, 3, 4)])]
# [False, 2, [('o', 'e', 'o'), ('o', 'o', 'o')]]
[five_edges(even, row), five_parts(seven, row)]
# [[('o', 'o', 'o'), ('o', 'e', 'o'), ('o', 'o', 'o'), ('e', 'o', 'o'), ('o', 'o', 'e')], [[0, 3, 4], [1, 2]]]
[chain_back([("right", 0, 2, 3, 4), ("right", 0, 1, 2, 4)]), mirrored_rule(seven) == seven, len(all_triples(even))]
# [[('left', 0, 1, 2, 4), ('left', 0, 2, 3, 4)], True, 8]
'''


def run_examples(test, text):
    """Runs the lines, and compares what stands ahead of a line `# ..` with it."""
    lines, names, compared = text.strip().split("\n"), {}, 0
    for line, behind in zip(lines, lines[1:] + [""]):
        if behind.startswith("# "):
            with test.subTest(line=line):
                test.assertEqual(repr(eval(line, names)), behind[2:])
            compared += 1
        elif not line.startswith("# "):
            exec(line, names)
    return compared


class Examples(unittest.TestCase):
    def test_section_3_kinds(self):
        self.assertEqual(run_examples(self, KINDS), 4)

    def test_section_4_groupings(self):
        self.assertEqual(run_examples(self, GROUPINGS), 6)

    def test_section_5_rules(self):
        self.assertEqual(run_examples(self, RULES), 5)


if __name__ == "__main__":
    unittest.main()
