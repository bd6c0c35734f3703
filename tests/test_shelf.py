"""Section 19: a shelf ([102] to [107], [109], [110]), with [2] for it."""

import random
import unittest

from kindshifts.combing import Comb, right_comb
from kindshifts.errors import (Apart, InvalidComb, InvalidDeed, InvalidGrouping, InvalidLog, InvalidRow, InvalidShelf,
                               InvalidSpot, KindError, NothingToRedo, NothingToUndo, Refused, Unsettled)
from kindshifts.groupings import groupings
from kindshifts.kinds import first_kinds
from kindshifts.rules import Rule, is_chain
from kindshifts.shelf import Shelf, replayed
from tests.plain_shelf import Plain, answer, classes_of
from tests.support import (check_wrong, even, every_triple, lesser, mixed, pool, raised, settled_combs, shown, there,
                           try_deeds, try_groupings, unsettled, wrong_for)
from tests.test_combing import WRONG_COMBS
from tests.test_groupings import LEFT, OF_FOUR, PAIRS
from tests.test_kinds import WRONG_ROWS
from tests.test_rules import WRONG_FORM

ROW = ["o", "o", "o", "o"]
ONE, RIGHT = [(0, 3), (0, 4), (1, 3)], [(0, 4), (1, 4), (2, 4)]
THREE = [(0, 2), (0, 3)]
COMBS = [mixed(), right_comb(Rule(even(), every_triple(even()))), right_comb(Rule(even(), [])),
         right_comb(Rule(lesser(), [triple for triple in every_triple(lesser()) if triple != ("a", "a", "b")]))]
WRONG_SPOTS = wrong_for([0, 1]) + [2, 3, 7, -5, "0", [0], (0,), 10 ** 20, 0x7f]
LOG = [("put", ROW, LEFT), ("shift", 0, ("right", 0, 2, 3, 4)), ("wish", 0, RIGHT), ("comb_once", 0), ("unwish", 0),
       ("part", 0), ("link", 0, 1), ("put", ["e"], []), ("take", 2), ("regroup", 0, PAIRS)]


class Left(Exception):
    pass


def full():
    """A shelf with four things and a wish at 0, three things at 1, a spot that was, and two commands to make again."""
    shelf = Shelf(mixed())
    shelf.put(list(ROW), list(LEFT))
    shelf.put(["o", "e", "o"], list(THREE))
    shelf.put(["e"], [])
    shelf.take(2)
    shelf.wish(0, list(RIGHT))
    shelf.regroup(1, [(0, 3), (1, 3)])
    shelf.comb_once(0)
    shelf.undo()
    shelf.undo()
    return shelf


def whole(shelf):
    """All that a shelf tells, also what undoing and making again would lead to."""
    found, back, on = [there(shelf)], shelf.copy(), shelf.copy()
    while raised(back.undo) is None:
        found.insert(0, there(back))
    while raised(on.redo) is None:
        found.append(there(on))
    return found


def asked(shelf):
    """What all methods that ask tell."""
    return [there(shelf)] + [(shelf.deeds(spot), shelf.last_there(spot), shelf.is_met(spot), shelf.wish_there(spot))
                             for spot in shelf.spots()]


def drawn_call(chance, comb, told):
    """The name and the arguments of a command, which may be refused."""
    spots = [cell[0] for cell in told[0]] + [0, 1, 9]
    name = chance.choice(["put", "put", "take", "shift", "shift", "comb_once", "wish", "unwish", "regroup", "link",
                          "part", "part", "undo", "undo", "redo", "redo", "deeds", "is_met"])
    if name in ("undo", "redo"):
        return name, []
    if name == "put":
        row = [chance.choice(comb.rule().kinds().kinds()) for _ in range(chance.choice((1, 2, 3, 4)))]
        return name, [row, chance.choice(try_groupings(len(row)))]
    if name == "link":
        one, other = chance.choice(spots), chance.choice(spots)
        rows = {cell[0]: cell[1] for cell in told[0]}
        # Rows of more than six things would take a plain trial long.
        return name, [one, other] if len(rows.get(one, "")) + len(rows.get(other, "")) < 7 else [9, 9]
    spot = chance.choice(spots)
    grouping = [cell[2] for cell in told[0] if cell[0] == spot] or [[]]
    if name == "shift":
        return name, [spot, chance.choice(try_deeds(grouping[0]) + [("right", 0, 1, 2, 3), ("left", 0, 1, 2, 3)])]
    if name in ("wish", "regroup"):
        return name, [spot, chance.choice(try_groupings(len(grouping[0]) + 1))]
    return name, [spot]


class Runs(unittest.TestCase):
    def test_drawn_runs_against_a_plain_list(self):
        chance = random.Random(127)
        for turn in range(120):
            comb = COMBS[turn % len(COMBS)]
            self.run_both(chance, Shelf(comb), Plain(comb), 28, 0)

    def run_both(self, chance, shelf, plain, many, depth):
        for _ in range(many):
            way = chance.random()
            if way < 0.06 and depth < 4:
                self.block(chance, shelf, plain, depth, chance.random() < 0.3)
            elif way < 0.12 and depth < 4:
                self.attempted(chance, shelf, plain, depth)
            elif way < 0.16:
                self.copied(chance, shelf, plain, depth)
            else:
                name, arguments = drawn_call(chance, plain.comb, plain.told())
                told = [answer(lambda: getattr(some, name)(*arguments)) for some in (shelf, plain)]
                self.assertEqual(shown(told[0]), shown(told[1]))
            self.assertEqual(shown(there(shelf)), shown(plain.told()))

    def block(self, chance, shelf, plain, depth, fails):
        kept, before = plain.twin(), shown(whole(shelf))
        try:
            with shelf.trial() as same:
                self.assertIs(same, shelf)
                self.run_both(chance, same, plain, 6, depth + 1)
                if fails:
                    raise Left()
        except Left:
            self.assertTrue(fails)
        plain.back_to(kept)
        self.assertEqual(shown(whole(shelf)), before)

    def attempted(self, chance, shelf, plain, depth):
        kept, before, thing = plain.twin(), shown(whole(shelf)), [object()]

        def action(same):
            self.assertIs(same, shelf)
            self.run_both(chance, same, plain, 5, depth + 1)
            return thing
        self.assertIs(shelf.attempt(action), thing)
        plain.back_to(kept)
        self.assertEqual(shown(whole(shelf)), before)

    def copied(self, chance, shelf, plain, depth):
        before, twin = shown(whole(shelf)), shelf.copy()
        self.assertIs(type(twin), Shelf)
        self.assertEqual(shown([whole(twin), asked(twin)]), shown([whole(shelf), asked(shelf)]))
        if depth < 4:
            self.run_both(chance, twin, plain.twin(), 4, depth + 1)
        self.assertEqual(shown(whole(shelf)), before)


class Spots(unittest.TestCase):
    def test_a_new_shelf(self):
        for comb in settled_combs()[::5]:
            shelf = Shelf(comb=comb)
            self.assertEqual((shelf.spots(), shelf.log()), ([], []))
            self.assertIs(type(raised(shelf.undo)), NothingToUndo)
            self.assertIs(type(raised(shelf.redo)), NothingToRedo)
            self.assertTrue(shelf == shelf)
            self.assertFalse(shelf != shelf)

    def test_the_least_count_that_no_spot_has_had(self):
        shelf = Shelf(mixed())
        self.assertEqual([shelf.put(row=["e"], grouping=[]) for _ in range(3)], [0, 1, 2])
        self.assertIsNone(shelf.take(spot=2))
        self.assertEqual(shelf.put(["o"], []), 3)
        shelf.undo()
        self.assertEqual((shelf.spots(), shelf.put(["o", "e"], [(0, 2)])), ([0, 1], 3))
        with shelf.trial():
            self.assertEqual((shelf.put(["e"], []), shelf.part(3)), (4, 5))
            self.assertEqual(shelf.put(["e"], []), 6)
        self.assertEqual((shelf.part(3), shelf.spots()), (4, [0, 1, 3, 4]))
        shelf.undo()
        self.assertEqual(shelf.part(spot=3), 4)
        self.assertIsNone(shelf.link(one=4, other=0))
        self.assertEqual((shelf.spots(), shelf.put(["e"], [])), ([1, 3, 4], 5))
        shelf.undo()
        shelf.redo()
        self.assertEqual((shelf.spots(), shelf.put(["e"], [])), ([1, 3, 4, 5], 6))

    def test_taken_spots_are_none(self):
        shelf = full()
        for call in (shelf.take, shelf.row_there, shelf.grouping_there, shelf.wish_there, shelf.deeds, shelf.comb_once,
                     shelf.last_there, shelf.unwish, shelf.is_met, shelf.way, shelf.part):
            error = raised(lambda: call(2))
            self.assertIs(type(error), InvalidSpot)
            self.assertEqual(error.value, 2)

    def test_what_is_there(self):
        shelf = full()
        self.assertEqual([shelf.spots(), shelf.row_there(spot=0), shelf.grouping_there(spot=0),
                          shelf.wish_there(spot=0)],
                         [[0, 1], ROW, LEFT, RIGHT])
        self.assertEqual([shelf.wish_there(1), shelf.is_met(spot=0), shelf.is_met(1)], [None, False, True])
        self.assertEqual([shelf.deeds(spot=0), shelf.last_there(spot=0)], [[("right", 0, 2, 3, 4)], RIGHT])
        lone = Shelf(mixed())
        lone.put(["o"], [])
        self.assertEqual([lone.deeds(0), lone.last_there(0), lone.way(0), lone.is_met(0)], [[], [], [], True])


class Commands(unittest.TestCase):
    def test_commands_return_nothing_but_what_is_named(self):
        shelf = Shelf(mixed())
        told = [shelf.put(ROW, LEFT), shelf.shift(spot=0, deed=("right", 0, 2, 3, 4)),
                shelf.wish(spot=0, grouping=RIGHT),
                shelf.comb_once(spot=0), shelf.regroup(spot=0, grouping=PAIRS), shelf.unwish(spot=0), shelf.part(0),
                shelf.link(0, 1), shelf.undo(), shelf.redo(), shelf.take(0)]
        self.assertEqual(told, [0, None, None, ("right", 0, 1, 2, 4), None, None, 1, None, None, None, None])

    def test_shift_and_comb(self):
        for comb in COMBS:
            names = comb.rule().kinds().kinds()
            for grouping in try_groupings(5):
                row = [names[0], names[-1], names[-1], names[0], names[-1]]
                shelf, plain = Shelf(comb), Plain(comb)
                shelf.put(row, grouping)
                plain.put(row, grouping)
                for deed in try_deeds(grouping):
                    twin, other = shelf.copy(), plain.twin()
                    self.assertEqual(*[answer(lambda: some.shift(0, deed)) for some in (twin, other)])
                    self.assertEqual(there(twin), other.told())
                told = [None]
                while told[0] != ("Refused", 0):
                    told = [answer(lambda: some.comb_once(0)) for some in (shelf, plain)]
                    self.assertEqual(*told)
                    self.assertEqual(there(shelf), plain.told())
                self.assertEqual(shelf.grouping_there(0), shelf.last_there(0))

    def test_last_there(self):
        for comb in COMBS:
            shelf, row = Shelf(comb), [comb.rule().kinds().kinds()[-1]] * 4
            shelf.put(row, LEFT)
            for found in classes_of(comb, row):
                for grouping in found:
                    other = Shelf(comb)
                    other.put(row, grouping)
                    self.assertIn(other.last_there(0), found)
                    other.regroup(0, other.last_there(0))
                    self.assertEqual(other.last_there(0), other.grouping_there(0))
                    self.assertIs(type(raised(lambda: other.comb_once(0))), Refused)

    def test_wishes_and_ways(self):
        for comb in COMBS:
            row = (comb.rule().kinds().kinds() * 5)[:5]
            for found in classes_of(comb, row):
                for grouping, wish in zip(found, found[::-1]):
                    shelf = Shelf(comb)
                    shelf.put(row, grouping)
                    self.assertEqual([shelf.way(0), shelf.is_way(0, []), shelf.is_met(0)], [[], True, True])
                    shelf.wish(0, wish)
                    way = shelf.way(spot=0)
                    self.assertIs(is_chain(comb.rule(), row, grouping, wish, way), True)
                    self.assertIs(shelf.is_way(value=way, spot=0), True)
                    self.assertIs(shelf.is_met(0), grouping == wish)
                    self.assertIs(shelf.is_way(0, []), grouping == wish)
                    for deed in way:
                        shelf.shift(0, deed)
                    self.assertEqual([shelf.is_met(0), shelf.wish_there(0)], [True, wish])

    def test_a_way_of_any_object(self):
        shelf = full()
        for value in pool():
            self.assertIs(shelf.is_way(0, value), False)
            # Where there is no wish the empty list alone is one.
            self.assertIs(shelf.is_way(1, value), shown(value) == "[]")
        way = [("right", 0, 2, 3, 4), ("right", 0, 1, 2, 4)]
        self.assertIs(shelf.is_way(0, way), True)
        for value in [tuple(way), way[:1], way[::-1], way + [None], [list(deed) for deed in way], [way], way * 2,
                      way + [("left",) + way[1][1:]]] + [[wrong] + way for wrong in WRONG_FORM]:
            self.assertIs(shelf.is_way(0, value), False)
        self.assertIs(shelf.is_way(0, way + [("left",) + way[1][1:], way[1]]), True)
        # Deeds that fit, but are not let.
        shelf.undo()
        shelf.undo()
        shelf.wish(0, LEFT)
        self.assertIs(shelf.is_way(0, [("right", 0, 1, 2, 3), ("left", 0, 1, 2, 3)]), False)
        self.assertIs(shelf.is_way(0, [("right", 0, 2, 3, 4), ("left", 0, 2, 3, 4)]), True)

    def test_a_wish_is_exchanged_and_stays_where_the_grouping_changes(self):
        shelf = full()
        shelf.wish(0, LEFT)
        shelf.wish(0, PAIRS)
        self.assertEqual([shelf.wish_there(0), len(shelf.log())], [PAIRS, 7])
        shelf.regroup(0, RIGHT)
        shelf.shift(0, ("left", 0, 1, 2, 4))
        self.assertEqual([shelf.wish_there(0), shelf.is_met(0)], [PAIRS, True])
        shelf.regroup(0, PAIRS)
        self.assertEqual(len(shelf.log()), 10)
        shelf.unwish(0)
        self.assertIs(type(raised(lambda: shelf.unwish(0))), Refused)

    def test_link_and_part(self):
        chance = random.Random(131)
        for _ in range(60):
            shelf, sizes = Shelf(COMBS[0]), [chance.choice((1, 2, 3, 4)) for _ in range(2)]
            rows = [[chance.choice("eo") for _ in range(size)] for size in sizes]
            inner = [chance.choice(groupings(size)) for size in sizes]
            for row, grouping in zip(rows, inner):
                shelf.put(row, grouping)
            shelf.link(0, 1)
            self.assertEqual((shelf.spots(), shelf.row_there(0)), ([0], rows[0] + rows[1]))
            self.assertEqual((shelf.part(0), shelf.spots()), (2, [0, 2]))
            self.assertEqual([shelf.row_there(0), shelf.row_there(2)], rows)
            self.assertEqual([shelf.grouping_there(0), shelf.grouping_there(2)], inner)
            shelf.link(2, 0)
            self.assertEqual((shelf.spots(), shelf.row_there(2)), ([2], rows[1] + rows[0]))

    def test_what_is_refused(self):
        shelf = full()
        shelf.wish(1, THREE)
        before = shown(whole(shelf))
        for call, value in ((lambda: shelf.link(0, 1), 0), (lambda: shelf.link(1, 0), 1), (lambda: shelf.part(0), 0)):
            error = raised(call)
            self.assertEqual((type(error), error.value), (Refused, value))
        deed = ("right", 0, 1, 2, 3)
        error = raised(lambda: shelf.shift(0, deed))
        self.assertIs(type(error), Refused)
        self.assertIs(error.value, deed)
        self.assertEqual(shown(whole(shelf)), before)
        shelf.unwish(0)
        for one, other in ((0, 1), (1, 0)):
            error = raised(lambda: shelf.link(one, other))
            self.assertEqual((type(error), error.value), (Refused, 1))
        shelf.put(["e"], [])
        error = raised(lambda: shelf.part(3))
        self.assertEqual((type(error), error.value), (Refused, 3))
        error = raised(lambda: shelf.unwish(3))
        self.assertEqual((type(error), error.value), (Refused, 3))

    def test_groupings_that_are_not_joined(self):
        for call in ("wish", "regroup"):
            shelf, grouping = full(), list(ONE)
            before = shown(whole(shelf))
            error = raised(lambda: getattr(shelf, call)(0, grouping))
            self.assertIs(type(error), Apart)
            self.assertIs(error.value, grouping)
            self.assertEqual((shown(whole(shelf)), grouping), (before, ONE))


class Undoing(unittest.TestCase):
    def test_undo_and_redo(self):
        shelf = replayed(Shelf(mixed()), LOG)
        states = whole(shelf)
        self.assertEqual(len(states), len(LOG) + 1)
        for state in states[-2::-1]:
            self.assertIsNone(shelf.undo())
            self.assertEqual(there(shelf), state)
        self.assertIs(type(raised(shelf.undo)), NothingToUndo)
        for state in states[1:]:
            self.assertIsNone(shelf.redo())
            self.assertEqual(there(shelf), state)
        self.assertIs(type(raised(shelf.redo)), NothingToRedo)
        self.assertEqual(whole(shelf), states)

    def test_neither_asking_nor_an_error_is_a_command(self):
        shelf = full()
        before = shown(whole(shelf))
        asked(shelf)
        shelf.copy().take(0)
        replayed(shelf, [("take", 0)])
        shelf.way(0)
        shelf.is_way(0, [])
        shelf.log()
        for call in (lambda: shelf.take(2), lambda: shelf.wish(0, ONE), lambda: shelf.put(["x"], []),
                     lambda: shelf.link(0, 1), lambda: shelf.shift(0, None), lambda: shelf.part(7)):
            self.assertIsInstance(raised(call), KindError)
        self.assertEqual(shown(whole(shelf)), before)
        shelf.redo()
        shelf.redo()
        self.assertIs(type(raised(shelf.redo)), NothingToRedo)

    def test_a_new_command_leaves_nothing_to_make_again(self):
        for call in (lambda shelf: shelf.put(["e"], []), lambda shelf: shelf.unwish(0), lambda shelf: shelf.part(1),
                     lambda shelf: shelf.regroup(0, LEFT), lambda shelf: shelf.wish(0, RIGHT)):
            shelf = full()
            call(shelf)
            self.assertIs(type(raised(shelf.redo)), NothingToRedo)


class Blocks(unittest.TestCase):
    def test_undo_and_redo_reach_beyond_the_block(self):
        shelf = full()
        before, states = shown(whole(shelf)), whole(shelf)
        with shelf.trial() as name:
            self.assertIs(name, shelf)
            name.redo()
            name.redo()
            self.assertEqual(there(name), states[-1])
            while raised(name.undo) is None:
                pass
            self.assertEqual(there(name), states[0])
            self.assertEqual(name.put(["e"], []), 0)
            self.assertIs(type(raised(name.redo)), NothingToRedo)
        self.assertEqual(shown(whole(shelf)), before)

    def test_an_error_through_two_blocks(self):
        shelf, error = full(), Left()
        before = shown(whole(shelf))
        try:
            with shelf.trial():
                shelf.take(0)
                inner = shown(whole(shelf))
                try:
                    with shelf.trial() as same:
                        same.put(["o", "e"], [(0, 2)])
                        same.undo()
                        raise error
                finally:
                    self.assertEqual(shown(whole(shelf)), inner)
        except Left as caught:
            self.assertIs(caught, error)
        else:
            self.fail()
        self.assertEqual(shown(whole(shelf)), before)

    def test_an_error_of_the_shelf_goes_on(self):
        shelf = full()
        before = shown(whole(shelf))
        for call in (lambda: self.in_block(shelf), lambda: shelf.attempt(lambda same: same.take(9))):
            error = raised(call)
            self.assertEqual((type(error), error.value), (InvalidSpot, 9))
            self.assertEqual(shown(whole(shelf)), before)

    def in_block(self, shelf):
        with shelf.trial():
            shelf.take(0)
            shelf.take(9)

    def test_a_block_begins_when_it_is_entered(self):
        shelf = full()
        block = shelf.trial()
        shelf.unwish(0)
        before = shown(whole(shelf))
        with block as same:
            self.assertIs(same, shelf)
            self.assertEqual(shown(whole(shelf)), before)
            shelf.take(0)
        self.assertEqual(shown(whole(shelf)), before)

    def test_attempts(self):
        shelf, calls = full(), []
        before = shown(whole(shelf))

        def action(same):
            calls.append(same)
            same.take(0)
            return calls
        self.assertIs(shelf.attempt(action=action), calls)
        self.assertEqual(len(calls), 1)
        self.assertIs(calls[0], shelf)
        self.assertIsNone(shelf.attempt(lambda same: None))
        self.assertIs(shelf.attempt(lambda same: same), shelf)
        self.assertEqual(shelf.attempt(lambda same: same.attempt(lambda inner: inner.part(1))), 3)
        error = Left()

        def failing(same):
            same.take(0)
            raise error
        self.assertIs(raised(lambda: shelf.attempt(failing)), error)
        self.assertEqual(shown(whole(shelf)), before)

    def test_a_copy_made_within_a_block(self):
        shelf = full()
        with shelf.trial():
            shelf.take(0)
            shelf.put(["e", "o"], [(0, 2)])
            inner = shown(whole(shelf))
            twin = shelf.copy()
            shelf.undo()
            self.assertEqual(shown(whole(twin)), inner)
        self.assertEqual(shown(whole(twin)), inner)
        before = shown(whole(shelf))
        twin.undo()
        twin.put(["e"], [])
        self.assertEqual(shown(whole(shelf)), before)
        self.assertEqual(twin.spots(), [1, 3])
        with twin.trial():
            shelf.take(1)
        self.assertEqual(shelf.spots(), [0])

    def test_ten_blocks_one_in_another(self):
        shelf = Shelf(mixed())
        shelf.put(ROW, LEFT)
        self.nest(shelf, 10)
        self.assertEqual(there(shelf), [[(0, ROW, LEFT, None)], [("put", ROW, LEFT)]])

    def nest(self, shelf, depth):
        before = shown(whole(shelf))
        with shelf.trial():
            shelf.put(["e"], [])
            shelf.undo()
            shelf.regroup(0, LEFT)
            if depth > 1:
                self.nest(shelf, depth - 1)
            self.assertEqual(len(shelf.log()), 12 - depth)
        self.assertEqual(shown(whole(shelf)), before)


class Logs(unittest.TestCase):
    def test_log(self):
        shelf = Shelf(mixed())
        for many, (word, *rest) in enumerate(LOG):
            getattr(shelf, word)(*rest)
            self.assertEqual(shown(shelf.log()), shown(LOG[:many + 1]))
        shelf.undo()
        self.assertEqual(shelf.log(), LOG[:-1])
        shelf.take(0)
        self.assertEqual(shelf.log(), LOG[:-1] + [("take", 0)])

    def test_replayed(self):
        for many in range(len(LOG) + 1):
            shelf = Shelf(mixed())
            twin = replayed(shelf, LOG[:many])
            self.assertIsNot(twin, shelf)
            self.assertEqual((shelf.log(), twin.log()), ([], LOG[:many]))
            self.assertEqual(there(replayed(log=twin.log(), shelf=Shelf(mixed()))), there(twin))
        shelf = full()
        self.assertEqual(shown(whole(replayed(shelf, []))), shown(whole(shelf)))
        twin = replayed(shelf, [("put", ["e"], []), ("link", 1, 3)])
        self.assertEqual((twin.spots(), len(twin.log()), shelf.spots()), ([0, 1], 7, [0, 1]))
        self.assertIs(type(raised(twin.redo)), NothingToRedo)

    def test_the_error_of_the_first_command(self):
        shelf, grouping, row = full(), list(ONE), ["e", "x"]
        before = shown(whole(shelf))
        for command, kind, value in ((("wish", 0, grouping), Apart, grouping), (("put", row, []), InvalidRow, row),
                                     (("take", True), InvalidSpot, True), (("unwish", 1), Refused, 1),
                                     (("link", 1, 1), InvalidSpot, 1), (("shift", 1, None), InvalidDeed, None),
                                     (("regroup", 0, row), InvalidGrouping, row)):
            log = [("put", ["e"], []), command, ("take", 9)]
            told = shown(log)
            error = raised(lambda: replayed(shelf, log))
            self.assertIs(type(error), kind)
            self.assertIs(error.value, value)
            self.assertEqual((shown(whole(shelf)), shown(log)), (before, told))

    def test_wrong_arguments(self):
        logs = wrong_for([[]]) + [(("take", 0),), ("take", 0), [["take", 0]], [("take",)], [("take", 0, 0)],
                                  [("put", ["e"])],
                                  [("undo",)], [("redo",)], [("try", [])], [("met", 0)], [("deeds", 0)], [("Take", 0)],
                                  [("take", 0), None], [(["take"], 0)], [(None, 0)], [({}, 0)], [("shift", 0)],
                                  [("link", 0)], [("part", 0, 1)], {0: ("take", 0)}, [("comb_once", 0, 0)], "take",
                                  [("regroup", 0, [], [])], [("unwish",)], [("wish", 0)]]
        shelves = [value for value in wrong_for() if not isinstance(value, Shelf)] + [Shelf, mixed(), full().trial()]
        check_wrong(self, replayed, lambda: [("shelf", full()), ("log", [("take", 0)])],
                    [("shelf", InvalidShelf, shelves), ("log", InvalidLog, logs)])


class Wrong(unittest.TestCase):
    def method(self, name):
        """A method of a shelf of its own, which an error leaves as it was."""
        def call(*passed, **named):
            shelf = full()
            before = shown(whole(shelf))
            try:
                return getattr(shelf, name)(*passed, **named)
            except KindError:
                self.assertEqual(shown(whole(shelf)), before)
                raise
        return call

    def test_wrong_combs(self):
        check_wrong(self, Shelf, lambda: [("comb", mixed())], [("comb", InvalidComb, WRONG_COMBS)])
        comb = unsettled()
        error = raised(lambda: Shelf(comb))
        self.assertIs(type(error), Unsettled)
        self.assertIs(error.value, comb)
        self.assertEqual(comb, unsettled())
        self.assertIs(type(Shelf(right_comb(Rule(first_kinds(["z"]), [])))), Shelf)

    def test_wrong_spots(self):
        wrong = [("spot", InvalidSpot, WRONG_SPOTS)]
        for name in ("take", "row_there", "grouping_there", "wish_there", "deeds", "comb_once", "last_there", "unwish",
                     "is_met", "way"):
            check_wrong(self, self.method(name), lambda: [("spot", 0)], wrong)
        check_wrong(self, self.method("part"), lambda: [("spot", 1)], wrong)
        check_wrong(self, self.method("is_way"), lambda: [("spot", 0), ("value", None)], wrong)

    def test_other_wrong_arguments(self):
        check_wrong(self, self.method("put"), lambda: [("row", list(ROW)), ("grouping", list(LEFT))],
                    [("row", InvalidRow, WRONG_ROWS), ("grouping", InvalidGrouping, OF_FOUR)])
        spot = [("spot", InvalidSpot, WRONG_SPOTS)]
        for name in ("wish", "regroup"):
            check_wrong(self, self.method(name), lambda: [("spot", 0), ("grouping", list(PAIRS))],
                        spot + [("grouping", InvalidGrouping, OF_FOUR)])
        deeds = WRONG_FORM + [("right", 0, 1, 3, 4), ("left", 0, 1, 2, 3), ("right", 0, 2, 3, 5), ["right", 0, 2, 3, 4],
                              ("left", 0, 2, 3, 4), ("right", 1, 2, 3, 4)]
        check_wrong(self, self.method("shift"), lambda: [("spot", 0), ("deed", ("right", 0, 2, 3, 4))],
                    spot + [("deed", InvalidDeed, deeds)])

    def test_wrong_spots_of_a_link(self):
        def linked(*passed, **named):
            shelf = full()
            shelf.unwish(0)
            return shelf.link(*passed, **named)
        others = [value for value in WRONG_SPOTS if value != 0] + [0]
        check_wrong(self, linked, lambda: [("one", 0), ("other", 1)],
                    [("one", InvalidSpot, WRONG_SPOTS), ("other", InvalidSpot, others)])
        # What is wrong comes ahead of what is refused.
        for one, other, value in ((0, 0, 0), (0, 9, 9), (9, 0, 9)):
            error = raised(lambda: full().link(one, other))
            self.assertEqual((type(error), error.value), (InvalidSpot, value))

    def test_what_was_passed_or_returned_may_change(self):
        shelf, row, grouping, wish = Shelf(mixed()), list(ROW), list(LEFT), list(PAIRS)
        shelf.put(row, grouping)
        shelf.wish(0, wish)
        shelf.regroup(0, grouping)
        before = shown([whole(shelf), asked(shelf)])
        for made in (row, grouping, wish):
            made.append(None)

        def told():
            return [shelf.spots(), shelf.row_there(0), shelf.grouping_there(0), shelf.wish_there(0), shelf.deeds(0),
                    shelf.last_there(0), shelf.way(0), shelf.log(), shelf.log()[0][1], shelf.log()[0][2],
                    shelf.log()[1][2], shelf.log()[2][2]]
        first = shown(told())
        for made in told():
            made.append(None)
        self.assertEqual(shown(told()), first)
        self.assertEqual(shown([whole(shelf), asked(shelf)]), before)
        log = [("put", list(ROW), list(LEFT)), ("wish", 0, list(PAIRS))]
        twin = replayed(Shelf(mixed()), log)
        told = shown(whole(twin))
        log[0][1].append("x")
        log[1][2].clear()
        self.assertEqual(shown(whole(twin)), told)

    def test_limits(self):
        comb = COMBS[1]
        shelf = Shelf(comb)
        for _ in range(4):
            shelf.put(["o", "e"], [(0, 2)])
        for one, other in ((0, 1), (2, 3), (0, 2)):
            shelf.link(one, other)
        self.assertEqual((shelf.spots(), len(shelf.row_there(0))), ([0], 8))
        many = len(shelf.log())
        shelf.wish(0, [(first, 8) for first in range(7)])
        while not shelf.is_met(0) and many < 40:
            shelf.shift(0, shelf.way(0)[0])
            many += 1
        self.assertEqual(shelf.grouping_there(0), shelf.last_there(0))
        while raised(shelf.undo) is None:
            pass
        self.assertEqual(shelf.spots(), [])
        self.assertIsInstance(comb, Comb)


if __name__ == "__main__":
    unittest.main()
