"""A plain list of what is at the spots of a shelf, command by command, to compare a shelf with."""

import copy

from kindshifts.errors import (Apart, InvalidDeed, InvalidSpot, KindError, NothingToRedo, NothingToUndo, Refused)
from tests.support import try_classes, try_deeds, try_done, try_let, try_parts, try_triple

KNOWN = {}


def classes_of(comb, row):
    key = (id(comb), tuple(row))
    if key not in KNOWN:
        # The comb is kept, so that no other one has its number.
        KNOWN[key] = (comb, try_classes(comb.rule(), row))
    return KNOWN[key][1]


def joined(comb, row, one, other):
    return any(one in found and other in found for found in classes_of(comb, row))


class Plain:
    """The states ahead of and behind each command, all kept, and at which of them it stands."""

    def __init__(self, comb):
        self.comb, self.states, self.commands, self.at = comb, [({}, 0)], [], 0

    def twin(self):
        made = Plain(self.comb)
        made.states, made.commands, made.at = copy.deepcopy((self.states, self.commands, self.at))
        return made

    def back_to(self, kept):
        self.states, self.commands, self.at = kept.states, kept.commands, kept.at

    def told(self):
        cells = self.states[self.at][0]
        return [[(spot, *cells[spot]) for spot in sorted(cells)], self.commands[:self.at]]

    def make(self, command, cells, had):
        self.states = self.states[:self.at + 1] + [copy.deepcopy((cells, had))]
        self.commands = self.commands[:self.at] + [copy.deepcopy(command)]
        self.at += 1

    def cells(self, spot):
        cells, had = copy.deepcopy(self.states[self.at])
        if spot not in cells:
            raise InvalidSpot(spot)
        return cells, had, list(cells[spot])

    def put(self, row, grouping):
        cells, had = copy.deepcopy(self.states[self.at])
        cells[had] = (row, grouping, None)
        self.make(("put", row, grouping), cells, had + 1)
        return had

    def take(self, spot):
        cells, had, _ = self.cells(spot)
        del cells[spot]
        self.make(("take", spot), cells, had)

    def shift(self, spot, deed):
        cells, had, (row, grouping, wish) = self.cells(spot)
        if deed not in try_deeds(grouping):
            raise InvalidDeed(deed)
        if try_triple(self.comb.rule().kinds(), row, deed) not in self.comb.rule().triples():
            raise Refused(deed)
        cells[spot] = (row, try_done(grouping, deed), wish)
        self.make(("shift", spot, deed), cells, had)

    def deeds(self, spot):
        _, _, (row, grouping, _) = self.cells(spot)
        return sorted(deed for deed, _ in try_let(self.comb.rule(), row)[tuple(grouping)])

    def comb_once(self, spot):
        cells, had, (row, grouping, wish) = self.cells(spot)
        arrows, kinds = self.comb.arrows(), self.comb.rule().kinds()
        along = [deed for deed in self.deeds(spot) if arrows[try_triple(kinds, row, deed)] == deed[0]]
        if not along:
            raise Refused(spot)
        cells[spot] = (row, try_done(grouping, along[0]), wish)
        self.make(("comb_once", spot), cells, had)
        return along[0]

    def wish(self, spot, grouping):
        cells, had, (row, there, _) = self.cells(spot)
        if not joined(self.comb, row, there, grouping):
            raise Apart(grouping)
        cells[spot] = (row, there, grouping)
        self.make(("wish", spot, grouping), cells, had)

    def unwish(self, spot):
        cells, had, (row, there, wish) = self.cells(spot)
        if wish is None:
            raise Refused(spot)
        cells[spot] = (row, there, None)
        self.make(("unwish", spot), cells, had)

    def is_met(self, spot):
        _, there, wish = self.cells(spot)[2]
        return wish in (None, there)

    def regroup(self, spot, grouping):
        cells, had, (row, there, wish) = self.cells(spot)
        if not joined(self.comb, row, there, grouping):
            raise Apart(grouping)
        cells[spot] = (row, grouping, wish)
        self.make(("regroup", spot, grouping), cells, had)

    def link(self, one, other):
        _, _, (row, grouping, wish) = self.cells(one)
        cells, had, (behind, inner, other_wish) = self.cells(other)
        if one == other:
            raise InvalidSpot(other)
        for spot, some in ((one, wish), (other, other_wish)):
            if some is not None:
                raise Refused(spot)
        many = len(row)
        blocks = [(first + many, end + many) for first, end in inner] + [(0, many + len(behind))]
        cells[one] = (row + behind, sorted(grouping + blocks), None)
        del cells[other]
        self.make(("link", one, other), cells, had)

    def part(self, spot):
        cells, had, (row, grouping, wish) = self.cells(spot)
        if len(row) == 1 or wish is not None:
            raise Refused(spot)
        split = try_parts(grouping, (0, len(row)))[0][1]
        cells[spot] = (row[:split], [block for block in grouping if block[1] <= split], None)
        cells[had] = (row[split:], [(first - split, end - split) for first, end in grouping if first >= split], None)
        self.make(("part", spot), cells, had + 1)
        return had

    def undo(self):
        if self.at == 0:
            raise NothingToUndo()
        self.at -= 1

    def redo(self):
        if self.at == len(self.commands):
            raise NothingToRedo()
        self.at += 1


def answer(call):
    """What a call returns, or the name and the field of the error of this package that it raises."""
    try:
        return call()
    except KindError as error:
        return (type(error).__name__, getattr(error, "value", None))
