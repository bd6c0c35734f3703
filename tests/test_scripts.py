"""Section 20: scripts ([113] to [116]), with [2] for them."""

import random
import unittest

from kindshifts.combing import right_comb
from kindshifts.errors import InvalidComb, InvalidScript, InvalidShelf, InvalidText, KindError, Unsettled
from kindshifts.kinds import first_kinds
from kindshifts.papers import grouping_text
from kindshifts.rules import Rule
from kindshifts.scripts import end_of, play, read_script, script_text, shortened
from kindshifts.shelf import Shelf
from tests.support import (check_bent, check_wrong, deep, even, mixed, raised, shown, try_deeds, try_groupings,
                           unsettled, wrong_for)
from tests.test_combing import WRONG_COMBS
from tests.test_groupings import BAD_GROUPINGS, LEFT, OF_ANY_NUMBER, PAIRS
from tests.test_rules import WRONG_FORM
from tests.test_shelf import COMBS, full, whole

ROW = ["o", "o", "o", "o"]
ONE = [(0, 3), (0, 4), (1, 3)]
DEED = ("right", 0, 2, 3, 4)
SAID = {"put": "put", "comb_once": "combed", "part": "parted", "deeds": "deeds", "met": "met"}
LONE = ["take", "comb_once", "unwish", "part", "deeds", "met"]
EVERY = [("put", list(ROW), list(LEFT)), ("deeds", 0), ("shift", 0, DEED), ("comb_once", 0), ("wish", 0, list(PAIRS)),
         ("met", 0), ("unwish", 0), ("regroup", 0, list(PAIRS)), ("part", 0), ("link", 0, 1), ("undo",), ("redo",),
         ("try", [("put", ["e"], []), ("try", [("take", 0), ("undo",)]), ("take", 0)]), ("take", 0)]


def wrong_commands():
    found = [value for value in wrong_for()] + [
        ("put",), ("put", ["e"]), ("put", ["e"], [], []), ("put", ("e",), []), ("put", [], []), ("put", ["E"], []),
        ("put", ["e", None], [(0, 2)]), ("put", "e", []), ("put", ["abcdefghi"], []), ("put", [["e"]], []),
        ("undo", 0), ("redo", 0), ("undo", None), ("try",), ("try", ()), ("try", None), ("try", [], []),
        ("try", [None]),
        ("try", [("try", [("take", True)])]), ("try", ("take", 0)), ("Take", 0), ("done",), ("refused", "Refused"),
        ("trial", []), ("is_met", 0), ("log",), ("copy",), ("spots",), ("way", 0), ["take", 0], [("take", 0)],
        ("link", 0), ("link", 0, 1, 2), ("link", True, 0), ("link", 0, False), ("link", 0, None), ("shift", 0),
        ("shift", 0, DEED, DEED),
        ("shift", 0, list(DEED)), ("shift",) + DEED, ("shift", DEED, 0), ("shift", True, DEED), (["take"], 0), (None,),
        (even(), 0), ("wish", 0), ("wish", 0, [], []), ("regroup", 0), ("regroup", False, []), ("wish", [], 0), ("",)]
    for word in LONE:
        found += [(word,), (word, 0, 0), (word, True), (word, -1), (word, None), (word, "0"), (word, [0]), (word, (0,))]
    for value in OF_ANY_NUMBER:
        found += [("put", ["e"], value), ("wish", 0, value), ("regroup", 0, value)]
    found += [("put", row, []) for row in wrong_for([["e"], ["A"]]) if not isinstance(row, list)]
    return found + [("shift", 0, wrong) for wrong in WRONG_FORM]


WRONG_SCRIPTS = wrong_for([[]]) + [tuple(EVERY), EVERY[0], {0: ("undo",)}, "undo", [EVERY]]
WRONG_SCRIPTS += [[("undo",), wrong] for wrong in wrong_commands()]
WRONG_SCRIPTS += [[("try", [("undo",), wrong])] for wrong in wrong_commands()[::9]]


def drawn(chance, many, depth):
    """A script of so many commands and more, of which not all can be taken."""
    script = []
    for _ in range(many):
        word = chance.choice(["put", "put", "put", "link", "undo", "redo", "wish", "regroup", "shift", "try"] + LONE)
        spot = chance.choice((0, 0, 0, 1, 1, 2, 7))
        grouping = chance.choice(try_groupings(chance.choice((1, 2, 3, 3, 4))))
        if word == "put":
            row = [chance.choice("eeoox") for _ in range(len(grouping) + chance.choice((1, 1, 1, 1, 2)))]
            script.append((word, row, grouping))
        elif word in ("undo", "redo"):
            script.append((word,))
        elif word == "link":
            script.append((word, spot, chance.choice((0, 1, 2))))
        elif word in ("wish", "regroup"):
            script.append((word, spot, grouping))
        elif word == "shift":
            script.append((word, spot, chance.choice(try_deeds(chance.choice(try_groupings(4))))))
        elif word == "try":
            script.append((word, drawn(chance, chance.choice((0, 1, 2, 3)), depth + 1) if depth < 3 else []))
        else:
            script.append((word, spot))
    return script


def try_play(shelf, script):
    """The methods called one by one."""
    said = []
    for word, *rest in script:
        if word == "try":
            with shelf.trial():
                said.append(("tried", try_play(shelf, rest[0])))
            continue
        try:
            told = getattr(shelf, "is_met" if word == "met" else word)(*rest)
            said.append((SAID[word], told) if word in SAID else ("done",))
        except KindError as error:
            said.append(("refused", type(error).__name__))
    return said


def try_lines(script, depth):
    """The lines of a text, by the words of [115]."""
    lines, blanks = [], "  " * depth
    for word, *rest in script:
        head, inner = [word], None
        for part in rest:
            if isinstance(part, int):
                head.append(str(part))
            elif isinstance(part, tuple):
                head += [str(piece) for piece in part]
            elif part and isinstance(part[0], str):
                head += part
            elif word == "try":
                inner = try_lines(part, depth + 1)
            else:
                inner = [blanks + f"  {first} {end}" for first, end in part]
        lines += [blanks + " ".join(head)] + ([] if inner is None else inner + [blanks + "end"])
    return lines


def try_end(comb, script):
    shelf = Shelf(comb)
    try_play(shelf, script)
    return {spot: (shelf.row_there(spot), shelf.grouping_there(spot), shelf.wish_there(spot)) for spot in shelf.spots()}


class Playing(unittest.TestCase):
    def test_against_the_methods_called_one_by_one(self):
        chance = random.Random(137)
        words = set()
        for turn in range(300):
            comb, script = COMBS[turn % 3], drawn(chance, chance.choice((0, 3, 6, 12)), 0)
            shelf, other, before = Shelf(comb), Shelf(comb), shown(script)
            for start in ([], EVERY[:1], full().log()):
                said = play(shelf=shelf, script=start + script)
                self.assertEqual(shown(said), shown(try_play(other, start + script)))
                self.assertEqual(shown(whole(shelf)), shown(whole(other)))
                words |= {told[1] for told in said if told[0] == "refused"}
            self.assertEqual(shown(script), before)
        self.assertEqual(words, {"InvalidRow", "InvalidGrouping", "InvalidSpot", "InvalidDeed", "Apart", "Refused",
                                 "NothingToUndo", "NothingToRedo"})

    def test_what_is_said(self):
        shelf = Shelf(mixed())
        self.assertEqual(shown(play(shelf, EVERY)), shown([
            ("put", 0), ("deeds", [DEED]), ("done",), ("combed", ("right", 0, 1, 2, 4)), ("done",), ("met", False),
            ("done",), ("done",), ("parted", 1), ("done",), ("done",), ("done",),
            ("tried", [("put", 2), ("tried", [("done",), ("done",)]), ("done",)]), ("done",)]))
        self.assertEqual(shelf.spots(), [])
        self.assertEqual(shown(play(shelf, [])), "[]")

    def test_what_is_refused_and_that_the_script_goes_on(self):
        script = [("undo",), ("redo",), ("put", ["x"], []), ("put", ["e"], [(0, 2)]), ("take", 0), ("put", ROW, LEFT),
                  ("shift", 0, ("right", 0, 1, 3, 4)), ("shift", 0, ("right", 0, 1, 2, 3)), ("wish", 0, ONE),
                  ("unwish", 0), ("link", 0, 0), ("regroup", 0, []), ("part", 5), ("met", 1), ("met", 0)]
        words = ["NothingToUndo", "NothingToRedo", "InvalidRow", "InvalidGrouping", "InvalidSpot", None, "InvalidDeed",
                 "Refused", "Apart", "Refused", "InvalidSpot", "InvalidGrouping", "InvalidSpot", "InvalidSpot", None]
        said = play(Shelf(mixed()), script)
        self.assertEqual([told[1] if told[0] == "refused" else None for told in said], words)
        self.assertEqual((said[5], said[-1]), (("put", 0), ("met", True)))

    def test_a_try_is_played_in_a_block(self):
        shelf = full()
        before = shown(whole(shelf))
        said = play(shelf, [("try", [("redo",), ("redo",), ("redo",), ("take", 0), ("put", ["e"], []), ("undo",),
                                     ("undo",)]),
                            ("try", [("put", ["e"], []), ("try", [("part", 1)]), ("part", 1)])])
        self.assertEqual(said, [("tried", [("done",), ("done",), ("refused", "NothingToRedo"), ("done",), ("put", 3),
                                           ("done",), ("done",)]),
                                ("tried", [("put", 3), ("tried", [("parted", 4)]), ("parted", 4)])])
        self.assertEqual(shown(whole(shelf)), before)

    def test_wrong_arguments(self):
        shelves = [value for value in wrong_for() if not isinstance(value, Shelf)] + [Shelf, mixed()]
        check_wrong(self, play, lambda: [("shelf", full()), ("script", [("take", 0)])],
                    [("shelf", InvalidShelf, shelves), ("script", InvalidScript, WRONG_SCRIPTS)])
        # A script of which a later command is none changes nothing.
        shelf = full()
        before = shown(whole(shelf))
        self.assertIs(type(raised(lambda: play(shelf, [("take", 0), ("take",)]))), InvalidScript)
        self.assertEqual(shown(whole(shelf)), before)


class Texts(unittest.TestCase):
    def test_there_and_back(self):
        chance = random.Random(139)
        scripts = [[], EVERY, EVERY * 2, [("try", [])], [("try", [("try", [("try", [("try", [])])])])]]
        scripts += [drawn(chance, chance.choice((1, 3, 12)), 0) for _ in range(300)]
        scripts += [[("put", ["end"], []), ("put", ["try", "put", "end"], [(0, 2), (0, 3)]), ("take", 10 ** 29)]]
        for script in scripts:
            before, text = shown(script), script_text(script=script)
            self.assertEqual(text, "\n".join(try_lines(script, 0)))
            self.assertEqual(shown(read_script(text=text)), before)
            self.assertEqual(shown(script), before)

    def test_examples_of_lines(self):
        text = "put o e\n  0 2\nend\ntry\n  put e\n  end\n  wish 0\n    0 2\n    0 3\n  end\n  try\n  end\nend\nundo"
        script = [("put", ["o", "e"], [(0, 2)]), ("try",
                                                  [("put", ["e"], []), ("wish", 0, [(0, 2), (0, 3)]), ("try", [])]),
                  ("undo",)]
        self.assertEqual((script_text(script), read_script(text)), (text, script))
        self.assertEqual((script_text([]), read_script("")), ("", []))

    def test_bent_texts(self):
        scripts = [EVERY[:2], EVERY[2:5], [EVERY[9], EVERY[12]], [("try", [])], [("put", ["e"], [])],
                   [("undo",), ("redo",)], [("try", [("try", [("wish", 12, PAIRS)])])]]
        self.assertGreater(check_bent(self, read_script, script_text, [script_text(script) for script in scripts]), 0)

    def test_wrong_texts(self):
        wrong = wrong_for([""]) + [
            "end", "try", "try\n", "try\nend\nend", "try\n  end", "try end", "try\nundo\nend", "try\n   undo\nend",
            "put o", "put\nend", "put  o\nend", "put o\n0 2\nend", "put o\n  0 2\n", "put o e\n  0 3\nend", "put o end",
            "put O\nend", "put o\n  end\nend", "put 0\nend", "take", "take 00", "take 01", "take -1", "take 0 ",
                                   " take 0",
            "take 0\n", "\ntake 0", "take 0\n\ntake 0", "take  0", "take 0 0", "take o", "Take 0", "is_met 0",
                                   "take\t0",
            "shift 0", "shift 0 right 0 1 2", "shift 0 right 0 1 1 2", "shift right 0 1 2 3", "shift 0 0 right 0 1 2 3",
            "shift 0 right 0 1 2 03", "shift 0 up 0 1 2 3", "wish 0", "wish\nend", "wish 0\n  0 2",
                                   "wish 0\n  0 2\n  0 2\nend",
            "wish 0\n  0 3\n  0 2\nend", "wish 0 0\nend", "link 0", "link 0 1 2", "undo 0", "undo\nend", "redo\nredo ",
                                   "undo redo",
            "done", "try\n  try\n  end", "try\n  try\nend\nend", "take " + chr(0x661), EVERY, [], ["undo"],
                                   b"undo".decode() + chr(13)]
        check_wrong(self, read_script, lambda: [("text", "undo")], [("text", InvalidText, wrong)])
        check_wrong(self, script_text, lambda: [("script", [("undo",)])], [("script", InvalidScript, WRONG_SCRIPTS)])

    def test_what_is_a_script_by_its_form(self):
        # Groupings need not be of as many things as the row, nor spots be there, nor deeds fit.
        script = [("put", ["x"], list(LEFT)), ("shift", 10 ** 20, ("left", 5, 6, 70, 10 ** 20)), ("link", 3, 3),
                  ("wish", 9, []), ("put", ["abcdefgh", "end"], [])]
        self.assertEqual(read_script(script_text(script)), script)
        self.assertEqual([told[0] for told in play(Shelf(mixed()), script)], ["refused"] * 5)
        for some in BAD_GROUPINGS:
            self.assertIs(type(raised(lambda: script_text([("put", ["e"], some)]))), InvalidScript)
        self.assertIs(type(raised(lambda: script_text([("try", deep(12))]))), InvalidScript)
        self.assertEqual(grouping_text([]), script_text([]))


class Ends(unittest.TestCase):
    def test_end_of(self):
        chance = random.Random(149)
        for turn in range(200):
            comb, script = COMBS[turn % 3], drawn(chance, chance.choice((0, 4, 12)), 0)
            end = end_of(script=script, comb=comb)
            self.assertEqual(shown(end), shown(try_end(comb, script)))
            self.assertEqual(list(end), sorted(end))
        self.assertEqual(end_of(mixed(), []), {})
        self.assertEqual(shown(end_of(mixed(), [("put", ["o", "e"], [(0, 2)]), ("put", ["e"], []), ("wish", 1, [])])),
                         shown({0: (["o", "e"], [(0, 2)], None), 1: (["e"], [], [])}))

    def test_shortened(self):
        chance = random.Random(151)
        for turn in range(150):
            comb, script = COMBS[turn % 3], drawn(chance, chance.choice((1, 4, 12)), 0)
            end, left = try_end(comb, script), list(script)
            for place in range(len(script) - 1, -1, -1):
                if try_end(comb, left[:place] + left[place + 1:]) == end:
                    left = left[:place] + left[place + 1:]
            before = shown(script)
            self.assertEqual(shown(shortened(comb=comb, script=script)), shown(left))
            self.assertEqual(shown(script), before)
        self.assertEqual(shortened(mixed(), []), [])
        # From the last one to the first one, a try as one.
        self.assertEqual(shortened(mixed(), [("try", [("put", ["e"], [])]), ("put", ["e"], []), ("undo",), ("redo",)]),
                         [("put", ["e"], []), ("redo",)])
        twice = [("put", ["e"], []), ("take", 0), ("put", ["e"], [])]
        self.assertEqual(shortened(mixed(), twice), twice)
        # Where the first `put` is left out there is nothing to undo, and the end is the same.
        self.assertEqual(shortened(mixed(), EVERY[:1] + [("try", []), ("undo",), ("put", ["e"], [])]),
                         [("undo",), ("put", ["e"], [])])
        self.assertEqual(shown(end_of(right_comb(Rule(first_kinds(["z"]), [])), [("put", ["z"], [])])),
                         shown({0: (["z"], [], None)}))

    def test_wrong_arguments(self):
        for function in (end_of, shortened):
            check_wrong(self, function, lambda: [("comb", mixed()), ("script", [("undo",)])],
                        [("comb", InvalidComb, WRONG_COMBS), ("script", InvalidScript, WRONG_SCRIPTS)])
            comb = unsettled()
            for script in ([], None, [("take",)]):
                # Unsettled comes ahead of what is no script.
                error = raised(lambda: function(comb, script))
                self.assertIs(type(error), Unsettled)
                self.assertIs(error.value, comb)

    def test_what_was_passed_or_returned_may_change(self):
        comb, script = mixed(), [("put", list(ROW), list(LEFT)), ("wish", 0, list(PAIRS)),
                                 ("try", [("put", ["e"], [])]), ("deeds", 0)]
        before = shown(script)
        shelf = Shelf(comb)
        said = play(shelf, script)
        told = shown(whole(shelf))
        self.assertEqual(shown(script), before)
        said[2][1].append(None)
        said[3][1].clear()
        made = [end_of(comb, script), shortened(comb, script), read_script(script_text(script))]
        first = shown(made)
        for some in made[1:]:
            some[0][1].append("x")
            some[0][2].clear()
            some.append(None)
        made[0][0][0].append("x")
        made[0][0][1].clear()
        made[0].clear()
        self.assertEqual(shown([end_of(comb, script), shortened(comb, script), read_script(script_text(script))]),
                         first)
        self.assertEqual((shown(script), shown(whole(shelf))), (before, told))
        script[0][1].append("x")
        script[1][2].clear()
        self.assertEqual(shown(whole(shelf)), told)


if __name__ == "__main__":
    unittest.main()
