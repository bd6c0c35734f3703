"""A shelf: rows that are grouped anew, command by command."""

from kindshifts.combing import deeds_along, need_comb, spans_of
from kindshifts.errors import (Apart, InvalidDeed, InvalidLog, InvalidShelf, InvalidSpot, NothingToRedo, NothingToUndo,
                               Refused)
from kindshifts.forms import blocks_within, deed_fits, deed_made, is_count, is_deed, shifted, split_of
from kindshifts.groupings import need_grouping, side_by_side
from kindshifts.lasts import are_alike, chain_by_lasts, last_from
from kindshifts.rules import is_let, led_to, let_deeds, need_grouped_row
from kindshifts.settled import need_settled

# How many things stand behind the word of each command.
COMMANDS = {"put": 2, "take": 1, "shift": 2, "comb_once": 1, "wish": 2, "unwish": 1, "regroup": 2, "link": 2, "part": 1}


class Trial:
    """A block: when it is left, the shelf has the history that it had when the block was entered."""

    def __init__(self, shelf):
        self._shelf = shelf
        self._kept = None

    def __enter__(self):
        self._kept = self._shelf._history
        return self._shelf

    def __exit__(self, kind, value, trace):
        shelf = self._shelf
        shelf._history = self._kept


class Shelf:
    """What is at the spots stands in the history alone: what was done, and what was taken back, the last one last.

    Both are lists of tuples of a command and what it left: a dictionary from the
    spots to rows, groupings and wishes, and how many spots there had been. None of
    these lists and dictionaries is ever changed, so copies and blocks share them.
    """

    def __init__(self, comb):
        need_comb(comb)
        need_settled(comb)
        self._comb = comb
        self._history = ([], [])

    def _left(self):
        """The cells, and how many spots there have been."""
        past = self._history[0]
        return past[-1][1] if past else ({}, 0)

    def _make(self, command, cells, had):
        self._history = (self._history[0] + [(command, (cells, had))], [])

    def _cell(self, spot):
        cells = self._left()[0]
        if not is_count(spot) or spot not in cells:
            raise InvalidSpot(spot)
        return cells[spot]

    def _change(self, command, spot, cell):
        """Makes a command that changes what is at one spot."""
        cells, had = self._left()
        self._make(command, {**cells, spot: cell}, had)

    def put(self, row, grouping):
        need_grouped_row(self._comb.rule().kinds(), row, grouping)
        cells, had = self._left()
        cell = (list(row), list(grouping), None)
        self._make(("put", list(row), list(grouping)), {**cells, had: cell}, had + 1)
        return had

    def take(self, spot):
        self._cell(spot)
        cells, had = self._left()
        self._make(("take", spot), {some: cells[some] for some in cells if some != spot}, had)

    def spots(self):
        return sorted(self._left()[0])

    def row_there(self, spot):
        return list(self._cell(spot)[0])

    def grouping_there(self, spot):
        return list(self._cell(spot)[1])

    def wish_there(self, spot):
        wish = self._cell(spot)[2]
        return None if wish is None else list(wish)

    def shift(self, spot, deed):
        row, grouping, wish = self._cell(spot)
        if not is_deed(deed) or not deed_fits(grouping, deed):
            raise InvalidDeed(deed)
        if not is_let(self._comb.rule(), row, deed):
            raise Refused(deed)
        self._change(("shift", spot, deed), spot, (row, deed_made(grouping, deed), wish))

    def deeds(self, spot):
        row, grouping, _ = self._cell(spot)
        return let_deeds(self._comb.rule(), row, grouping)

    def comb_once(self, spot):
        row, grouping, wish = self._cell(spot)
        along = deeds_along(self._comb.arrows(), spans_of(self._comb, row), grouping)
        if not along:
            raise Refused(spot)
        self._change(("comb_once", spot), spot, (row, deed_made(grouping, along[0]), wish))
        return along[0]

    def last_there(self, spot):
        row, grouping, _ = self._cell(spot)
        return last_from(self._comb, row, grouping)

    def _need_joined(self, spot, grouping):
        row, there, _ = self._cell(spot)
        need_grouping(len(row), grouping)
        if not are_alike(self._comb, row, there, grouping):
            raise Apart(grouping)

    def wish(self, spot, grouping):
        self._need_joined(spot, grouping)
        row, there, _ = self._cell(spot)
        self._change(("wish", spot, list(grouping)), spot, (row, there, list(grouping)))

    def unwish(self, spot):
        row, there, wish = self._cell(spot)
        if wish is None:
            raise Refused(spot)
        self._change(("unwish", spot), spot, (row, there, None))

    def is_met(self, spot):
        _, there, wish = self._cell(spot)
        return wish is None or wish == there

    def way(self, spot):
        row, there, wish = self._cell(spot)
        return [] if wish is None else chain_by_lasts(self._comb, row, there, wish)

    def is_way(self, spot, value):
        row, there, wish = self._cell(spot)
        if wish is None:
            return isinstance(value, list) and not value
        return led_to(self._comb.rule(), row, there, value) == wish

    def regroup(self, spot, grouping):
        self._need_joined(spot, grouping)
        row, _, wish = self._cell(spot)
        self._change(("regroup", spot, list(grouping)), spot, (row, list(grouping), wish))

    def link(self, one, other):
        row, grouping, wish = self._cell(one)
        behind, inner, other_wish = self._cell(other)
        if other == one:
            raise InvalidSpot(other)
        if wish is not None:
            raise Refused(one)
        if other_wish is not None:
            raise Refused(other)
        cells, had = self._left()
        linked = {**cells, one: (row + behind, side_by_side(grouping, inner), None)}
        self._make(("link", one, other), {spot: linked[spot] for spot in linked if spot != other}, had)

    def part(self, spot):
        row, grouping, wish = self._cell(spot)
        if len(row) == 1 or wish is not None:
            raise Refused(spot)
        cells, had = self._left()
        split = split_of(grouping, (0, len(row)))
        left = (row[:split], blocks_within(grouping, (0, split)), None)
        right = (row[split:], shifted(blocks_within(grouping, (split, len(row))), -split), None)
        self._make(("part", spot), {**cells, spot: left, had: right}, had + 1)
        return had

    def undo(self):
        past, gone = self._history
        if not past:
            raise NothingToUndo()
        self._history = (past[:-1], gone + [past[-1]])

    def redo(self):
        past, gone = self._history
        if not gone:
            raise NothingToRedo()
        self._history = (past + [gone[-1]], gone[:-1])

    def trial(self):
        return Trial(self)

    def attempt(self, action):
        with self.trial():
            return action(self)

    def copy(self):
        twin = Shelf(self._comb)
        twin._history = self._history
        return twin

    def log(self):
        return [copied(command) for command, _ in self._history[0]]


def copied(command):
    """A command with lists of its own."""
    return tuple([list(part) if isinstance(part, list) else part for part in command])


def need_shelf(value):
    if not isinstance(value, Shelf):
        raise InvalidShelf(value)


def is_told_command(value):
    """Whether any object is a tuple with the word of a command and as many things behind it."""
    if not isinstance(value, tuple) or not value or not isinstance(value[0], str):
        return False
    return value[0] in COMMANDS and len(value) == COMMANDS[value[0]] + 1


def commanded(shelf, command):
    """Calls the method of a command's name, and returns what it returns."""
    word, first, last = command[0], command[1], command[-1]
    if word == "put":
        return shelf.put(first, last)
    if word == "take":
        return shelf.take(first)
    if word == "shift":
        return shelf.shift(first, last)
    if word == "comb_once":
        return shelf.comb_once(first)
    if word == "wish":
        return shelf.wish(first, last)
    if word == "unwish":
        return shelf.unwish(first)
    if word == "regroup":
        return shelf.regroup(first, last)
    if word == "link":
        return shelf.link(first, last)
    return shelf.part(first)


def replayed(shelf, log):
    need_shelf(shelf)
    if not isinstance(log, list) or not all([is_told_command(command) for command in log]):
        raise InvalidLog(log)
    twin = shelf.copy()
    for command in log:
        commanded(twin, command)
    return twin
