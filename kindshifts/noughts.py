"""Rows of whole numbers, where blocks may be shifted beside what comes to nought."""

from kindshifts.combing import Comb, walked_on
from kindshifts.ending import all_pairs
from kindshifts.errors import InvalidBlock, InvalidKinds, InvalidPlaces, InvalidRow
from kindshifts.forms import deed_made, deeds_at, is_ascending, is_deeds, is_grouping_of, is_span, is_whole
from kindshifts.groupings import groupings, need_grouping, need_size
from kindshifts.kinds import fold, neutral
from kindshifts.rules import Rule, all_triples, chain_back

# The lists that are the places of nought rules, ascending.
PLACES = (("a",), ("a", "b"), ("a", "b", "c"), ("a", "b", "c", "whole"), ("a", "c"), ("b",), ("b", "c"), ("c",))


def need_number_row(row):
    if not isinstance(row, list) or not row or not all([is_whole(number) for number in row]):
        raise InvalidRow(row)


def need_places(places):
    if not isinstance(places, list) or tuple(places) not in PLACES:
        raise InvalidPlaces(places)


def need_placed_row(row, places):
    need_number_row(row)
    need_places(places)


def need_placed_grouping(row, places, grouping):
    need_placed_row(row, places)
    need_grouping(len(row), grouping)


def need_two_placed(row, places, one, other):
    need_placed_grouping(row, places, one)
    need_grouping(len(row), other)


def heads_of(row):
    """The sums of the things ahead of each place, and of all of them: a stretch is nought between equal ones."""
    heads = [0]
    for number in row:
        heads.append(heads[-1] + number)
    return heads


def nought_spans(heads):
    """The ascending list of the stretches between equal heads."""
    return [(first, end) for first in range(len(heads)) for end in range(first + 1, len(heads))
            if heads[first] == heads[end]]


def nought_stretches(row):
    need_number_row(row)
    return nought_spans(heads_of(row))


# A deed is judged by which of A, B, C and of all three are nought. `noughts`
# tells this by the words of the places.


def noughts_at(heads, deed):
    _, first, second, third, end = deed
    return {"a": heads[first] == heads[second], "b": heads[second] == heads[third],
            "c": heads[third] == heads[end], "whole": heads[first] == heads[end]}


def is_let_by(places, noughts):
    return any([noughts[place] for place in places])


def word_along(places, noughts):
    """The word of the let deeds that go along the rule.

    Where C is told, but is not nought, A is so under `["a", "c"]`, as the deed is let.
    """
    return "left" if "c" in places and noughts["b"] and not noughts["c"] else "right"


def lets_at(heads, places, grouping):
    return [deed for deed in deeds_at(grouping) if is_let_by(places, noughts_at(heads, deed))]


def goes_along(heads, places, deed):
    noughts = noughts_at(heads, deed)
    return is_let_by(places, noughts) and word_along(places, noughts) == deed[0]


def along_at(heads, places, grouping):
    return [deed for deed in deeds_at(grouping) if goes_along(heads, places, deed)]


def led_along(heads, places, grouping):
    """Deeds along the rule that lead from a grouping to a last one, and this one."""
    return walked_on(lambda there: along_at(heads, places, there), grouping)


def nought_deeds(row, places, grouping):
    need_placed_grouping(row, places, grouping)
    return lets_at(heads_of(row), places, grouping)


def combing_deeds(row, places, grouping):
    need_placed_grouping(row, places, grouping)
    return along_at(heads_of(row), places, grouping)


def nought_last(row, places, grouping):
    need_placed_grouping(row, places, grouping)
    return led_along(heads_of(row), places, grouping)[1]


def is_nought_last(row, places, value):
    need_placed_row(row, places)
    return is_grouping_of(len(row), value) and not along_at(heads_of(row), places, value)


def nought_joined(row, places, one, other):
    return nought_chain(row, places, one, other) is not None


def nought_chain(row, places, one, other):
    need_two_placed(row, places, one, other)
    heads = heads_of(row)
    there, last = led_along(heads, places, one)
    back, other_last = led_along(heads, places, other)
    if last != other_last:
        return None
    return there + chain_back(back)


def is_nought_chain(row, places, one, other, value):
    need_two_placed(row, places, one, other)
    if not is_deeds(value):
        return False
    heads, there = heads_of(row), one
    for deed in value:
        if deed not in lets_at(heads, places, there):
            return False
        there = deed_made(there, deed)
    return there == other


def nought_classes(row, places):
    need_placed_row(row, places)
    return many_lasts(heads_of(row), places)


def many_lasts(heads, places):
    """How many last groupings there are.

    They are counted without being made: whether a block may stand in one hangs on
    its parts and on what stands beside it within the block around it.
    """
    size, told = len(heads) - 1, {}
    if size == 1:
        return 1
    for length in range(2, size + 1):
        for first in range(size - length + 1):
            end = first + length
            told[(first, end)] = [(split, many_beside(heads, places, told, first, split, end))
                                  for split in range(first + 1, end)]
    return sum([many for _, many in told[(0, size)]])


def many_beside(heads, places, told, first, split, end):
    """How many last groupings have two stretches, side by side, as the parts of a block of both."""
    left = [many for middle, many in told.get((first, split), [])
            if not goes_along(heads, places, ("right", first, middle, split, end))]
    right = [many for middle, many in told.get((split, end), [])
             if not goes_along(heads, places, ("left", first, split, middle, end))]
    return (sum(left) if split - first > 1 else 1) * (sum(right) if end - split > 1 else 1)


def nought_lasts(row, places):
    need_placed_row(row, places)
    heads = heads_of(row)
    return [some for some in groupings(len(row)) if not along_at(heads, places, some)]


def joining_places(row, one, other):
    need_number_row(row)
    need_grouping(len(row), one)
    need_grouping(len(row), other)
    heads = heads_of(row)
    return [list(places) for places in PLACES
            if led_along(heads, places, one)[1] == led_along(heads, places, other)[1]]


def is_free(row, places):
    return nought_classes(row, places) == 1


def neutral_comb(kinds, places):
    some = neutral(kinds)
    if some is None:
        raise InvalidKinds(kinds)
    need_places(places)
    told = {triple: noughts_of(kinds, some, triple) for triple in all_triples(kinds)}
    let = [triple for triple in told if is_let_by(places, told[triple])]
    arrows = {triple: word_along(places, told[triple]) for triple in let}
    return Comb(Rule(kinds, let), arrows, neutral_layers(kinds, some, list(arrows.values())))


def noughts_of(kinds, some, triple):
    """Which of A, B, C, and of all three together, are of the neutral kind."""
    a, b, c = triple
    return {"a": a == some, "b": b == some, "c": c == some, "whole": fold(kinds.table(), triple) == some}


def neutral_layers(kinds, some, words):
    """Layers by which the arrows of a neutral comb fall.

    A deed to the left makes a block of the neutral kind and of another one, in this
    order, into one that is none such; no deed to the right makes more of these.
    """
    pairs = all_pairs(kinds)
    lengths = {pair: (0, 1, 0) for pair in pairs}
    leading = {(a, b): (int(a == some and b != some), 0, 0) for a, b in pairs}
    return [leading, lengths] if "left" in words else [lengths]


def alike_in_noughts(row, other):
    need_number_row(row)
    need_number_row(other)
    return len(row) == len(other) and nought_spans(heads_of(row)) == nought_spans(heads_of(other))


def first_ties(stretches):
    """For each place where stretches of an ascending list end, the first place that they tie to it."""
    ties = {}
    for first, end in stretches:
        ties.setdefault(end, ties.get(first, first))
    return ties


def is_noughts_list(size, value):
    if not isinstance(value, list) or not all([is_span(span) and span[1] <= size for span in value]):
        return False
    if not is_ascending(value):
        return False
    # All places that are tied to one have equal heads, so between all of these are nought stretches.
    ties = first_ties(value)
    tied = sorted(set([place for span in value for place in span]))
    return value == [(first, end) for first in tied for end in tied
                     if first < end and ties.get(first, first) == ties.get(end, end)]


def are_noughts(size, value):
    need_size(size)
    return is_noughts_list(size, value)


def row_with(size, stretches):
    need_size(size)
    if not is_noughts_list(size, stretches):
        raise InvalidBlock(stretches)
    ties = first_ties(stretches)
    heads = [ties.get(place, place) for place in range(size + 1)]
    return [behind - ahead for ahead, behind in zip(heads, heads[1:])]
