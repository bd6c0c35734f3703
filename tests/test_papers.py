"""Section 21: texts ([117] to [120]), with [2] for them."""

import unittest

from kindshifts.errors import InvalidChain, InvalidChange, InvalidGrouping, InvalidKinds, InvalidRule, InvalidText
from kindshifts.kinds import Kinds, first_kinds, ring_kinds
from kindshifts.papers import (chain_text, change_text, grouping_text, kinds_text, read_chain, read_change,
                               read_grouping, read_kinds, read_rule, rule_text)
from kindshifts.rules import Rule
from tests.support import (check_bent, check_wrong, even, raised, rule_of, seven, shown, some_kinds, try_groupings,
                           two_kinds, wrong_for)
from tests.test_editions import NO_CHANGES
from tests.test_groupings import LEFT, OF_ANY_NUMBER
from tests.test_kinds import WRONG_KINDS
from tests.test_rules import WRONG_FORM, WRONG_RULES

LET = first_kinds(["let"])
CHANGES = [("let", ("a", "b", "a")), ("bar", ("a", "a", "a")), ("thing", 0, "b"), ("thing", 10 ** 29, "abcdefgh"),
           ("let", ("let", "let", "let")), ("bar", ("thing", "bar", "let")), ("thing", 12, "thing")]
CHAINS = [[], [("right", 0, 1, 2, 3)], [("left", 0, 1, 2, 12), ("left", 0, 1, 2, 12)],
          [("right", 7, 10, 100, 10 ** 29), ("left", 0, 1, 2, 3), ("right", 0, 5, 6, 7)]]
# What no reader takes but perhaps the empty text.
NO_TEXTS = wrong_for([""]) + [[""], ("",), {"": ""}, ["0 2"], ("right 0 1 2 3",), " ", chr(10), chr(9), "0  2", " 0 2",
                              "0 2 ", "0 2" + chr(10), chr(10) + "0 2", "end", "let", "= = = ="]


def all_kinds():
    return some_kinds() + two_kinds() + [LET, first_kinds(["a", "abcdefgh"]), ring_kinds(["z"])]


def some_rules():
    rules = [rule_of(kinds, number) for kinds in all_kinds() for number in (0, 1, 200, 255)]
    return rules + [Rule(LET, [("let",) * 3]), Rule(LET, []), seven()]


class Kind(unittest.TestCase):
    def test_there_and_back(self):
        for kinds in all_kinds():
            text = kinds_text(kinds=kinds)
            table = kinds.table()
            self.assertEqual(text, "\n".join(f"{a} {b} = {table[(a, b)]}" for a, b in sorted(table)))
            self.assertEqual(read_kinds(text=text), kinds)
            self.assertEqual(read_kinds(text).table(), table)

    def test_bent_texts(self):
        taken = check_bent(self, read_kinds, kinds_text, [kinds_text(kinds) for kinds in all_kinds()[:4] + [LET]])
        # Other kinds that make other ones have texts, too.
        self.assertGreater(taken, 0)

    def test_wrong_texts(self):
        text = kinds_text(even())
        lines = text.split("\n")
        wrong = NO_TEXTS + ["", "\n".join(lines[::-1]), "\n".join(lines + lines[-1:]), text.upper(), text + "\nlet",
                            text.replace("=", "=="), text.replace(" = ", "="), text.replace(" ", "  "), "a b = a",
                            "a a = b\na b = a\nb a = b\nb b = a", "a a = b", "A A = A", "a a = a a", "a a a",
                            "a a = a\n\nb b = b", "abcdefghi abcdefghi = abcdefghi", [text], lines, even()]
        check_wrong(self, read_kinds, lambda: [("text", text)], [("text", InvalidText, wrong)])
        check_wrong(self, kinds_text, lambda: [("kinds", even())], [("kinds", InvalidKinds, WRONG_KINDS)])


class Rules(unittest.TestCase):
    def test_there_and_back(self):
        for rule in some_rules():
            text = rule_text(rule=rule)
            lines = kinds_text(rule.kinds()).split("\n") + ["let"] + [" ".join(triple) for triple in rule.triples()]
            self.assertEqual(text, "\n".join(lines))
            self.assertEqual(read_rule(text=text), rule)

    def test_bent_texts(self):
        rules = [Rule(LET, [("let",) * 3]), Rule(LET, []), rule_of(even(), 37), rule_of(two_kinds()[2], 3)]
        self.assertGreater(check_bent(self, read_rule, rule_text, [rule_text(rule) for rule in rules]), 0)

    def test_wrong_texts(self):
        text = rule_text(rule_of(even(), 7))
        lines = text.split("\n")
        wrong = NO_TEXTS + ["", kinds_text(even()), text + "\ne e e", text + "\no o x", text + "\nlet", text + "\n",
                            "\n".join(lines[:-2] + lines[:-3:-1]), "let\ne e e", "\n".join(lines[4:]),
                            "\n".join(lines[4:] + lines[:4]), "let\n" + kinds_text(even()), text.replace("let", "Let"),
                            text.replace("let", "let "), text.replace("let\n", ""), text + "\no o", text + "\no o o o",
                            "let let = let\nlet\nlet let", lines, [text], even()]
        check_wrong(self, read_rule, lambda: [("text", text)], [("text", InvalidText, wrong)])
        check_wrong(self, rule_text, lambda: [("rule", seven())], [("rule", InvalidRule, WRONG_RULES)])


class Groupings(unittest.TestCase):
    def test_there_and_back(self):
        for size in range(1, 7):
            for grouping in try_groupings(size):
                text = grouping_text(grouping=grouping)
                self.assertEqual(text, "\n".join(f"{first} {end}" for first, end in grouping))
                self.assertEqual(read_grouping(text=text), grouping)
        tower = [(0, end) for end in range(2, 101)]
        self.assertEqual(read_grouping(grouping_text(tower)), tower)

    def test_bent_texts(self):
        check_bent(self, read_grouping, grouping_text, [grouping_text(some) for some in ([], [(0, 2)], LEFT)])
        check_bent(self, read_grouping, grouping_text, [grouping_text([(0, end) for end in range(2, 12)])])

    def test_wrong_texts(self):
        wrong = NO_TEXTS + ["0 3", "0 2\n0 2", "0 3\n0 2", "0 2\n1 3", "00 2", "0 02", "0 2 3", "0", "0,2", "0\n2",
                            "a b",
                            "0 2\n\n0 3", "-0 2", "+0 2", "0 2.", "0.0 2", "0 2\n  0 3", "0 2\nend", "1e0 2", LEFT, [],
                            chr(0x660) + " " + chr(0x662), "0 " + chr(0xb2)]
        check_wrong(self, read_grouping, lambda: [("text", "0 2")], [("text", InvalidText, wrong)])
        check_wrong(self, grouping_text, lambda: [("grouping", list(LEFT))],
                    [("grouping", InvalidGrouping, OF_ANY_NUMBER)])
        self.assertEqual((read_grouping(""), grouping_text([])), ([], ""))


class Chains(unittest.TestCase):
    def test_there_and_back(self):
        for chain in CHAINS:
            text = chain_text(chain=chain)
            self.assertEqual(text, "\n".join(" ".join(str(piece) for piece in deed) for deed in chain))
            self.assertEqual(shown(read_chain(text=text)), shown(chain))

    def test_bent_texts(self):
        self.assertGreater(check_bent(self, read_chain, chain_text, [chain_text(chain) for chain in CHAINS]), 0)

    def test_wrong_texts(self):
        wrong = NO_TEXTS + ["right 0 1 2", "right 0 1 2 3 4", "right 0 1 1 2", "right 3 2 1 0", "Right 0 1 2 3",
                            "0 1 2 3 right", "up 0 1 2 3", "right 0 1 2 03", "right 0 1 2 -3", "right 0 1 2 3\n",
                            "right 0 1 2 3\n\nleft 0 1 2 3",
                            "right  0 1 2 3", " right 0 1 2 3", "right 0 1 2 three", "right", "right,0,1,2,3",
                            CHAINS[1], "left 0 1 2 " + chr(0x663), "right 0 1 2 3 left 0 1 2 3"]
        check_wrong(self, read_chain, lambda: [("text", "left 0 1 2 3")], [("text", InvalidText, wrong)])
        chains = wrong_for([[]]) + [[wrong] for wrong in WRONG_FORM] + [tuple(CHAINS[1]), CHAINS[1][0],
                                                                       [list(CHAINS[1][0])], CHAINS[1] + [None]]
        check_wrong(self, chain_text, lambda: [("chain", list(CHAINS[1]))], [("chain", InvalidChain, chains)])


class Changes(unittest.TestCase):
    def test_there_and_back(self):
        texts = ["let a b a", "bar a a a", "thing 0 b", f"thing {10 ** 29} abcdefgh", "let let let let",
                 "bar thing bar let", "thing 12 thing"]
        for change, text in zip(CHANGES, texts):
            self.assertEqual(change_text(change=change), text)
            self.assertEqual(shown(read_change(text=text)), shown(change))

    def test_bent_texts(self):
        self.assertGreater(check_bent(self, read_change, change_text, [change_text(change) for change in CHANGES]), 0)

    def test_wrong_texts(self):
        wrong = NO_TEXTS + ["", "let a b", "let a b a a", "bar a", "bar", "thing 0", "thing b 0", "thing 0 b b",
                            "thing 00 b",
                            "thing 01 b", "thing -1 b", "thing 0 B", "thing 0 abcdefghi", "Let a b a", "let a b A",
                            "let a b a\n", "\nlet a b a", "let a b a\nbar a a a", "let  a b a", "let a b 1",
                            "thing 0 1",
                            "thing " + chr(0x661) + " b", "let a\tb a", "put a b a", "thing 1 b ", CHANGES[0]]
        check_wrong(self, read_change, lambda: [("text", "bar a b a")], [("text", InvalidText, wrong)])
        check_wrong(self, change_text, lambda: [("change", CHANGES[0])], [("change", InvalidChange, NO_CHANGES)])


class Same(unittest.TestCase):
    def test_what_was_passed_or_returned_may_change(self):
        grouping, chain = list(LEFT), list(CHAINS[3])
        before = shown([grouping, chain])

        def told():
            return [read_grouping("0 2\n0 3"), read_grouping(""), read_chain("left 0 1 2 3"), read_chain(""),
                    read_rule("z z = z\nlet\nz z z").triples(), read_kinds("z z = z").kinds()]
        first = shown([told(), grouping_text(grouping), chain_text(chain)])
        for made in told():
            made.append(None)
        self.assertEqual(shown([told(), grouping_text(grouping), chain_text(chain)]), first)
        self.assertEqual(shown([grouping, chain]), before)
        self.assertIs(type(read_kinds("z z = z")), Kinds)
        self.assertIs(type(raised(lambda: read_kinds(""))), InvalidText)


if __name__ == "__main__":
    unittest.main()
