"""Combs: arrows with layers by which they fall, and the chains along them to last groupings."""

from kindshifts.ending import all_pairs, has_layers, is_arrows_of, need_arrows, weight_by
from kindshifts.errors import InvalidComb, InvalidLayers
from kindshifts.forms import deed_made, deeds_at, is_deeds, is_grouping_of
from kindshifts.groupings import groupings, kinds_of_spans, need_grouping, need_row
from kindshifts.joining import as_groupings, distances
from kindshifts.rules import need_grouped_row, need_rule, triple_at


def are_arrows(rule, value):
    need_rule(rule)
    return is_arrows_of(rule, value)


class Comb:
    def __init__(self, rule, arrows, layers):
        need_arrows(rule, arrows)
        if not has_layers(rule, arrows, layers):
            raise InvalidLayers(layers)
        self._rule = rule
        self._arrows = {triple: arrows[triple] for triple in rule.triples()}
        self._layers = [{pair: layer[pair] for pair in all_pairs(rule.kinds())} for layer in layers]

    def __eq__(self, other):
        if not isinstance(other, Comb) or self._rule != other._rule:
            return False
        return self._arrows == other._arrows and self._layers == other._layers

    def rule(self):
        return self._rule

    def arrows(self):
        return {triple: self._arrows[triple] for triple in self._arrows}

    def layers(self):
        return [{pair: layer[pair] for pair in layer} for layer in self._layers]


def need_comb(value):
    if not isinstance(value, Comb):
        raise InvalidComb(value)


def arrows_to(rule, word):
    """The arrows of a rule that are all one word."""
    return {triple: word for triple in rule.triples()}


def right_comb(rule):
    need_rule(rule)
    return Comb(rule, arrows_to(rule, "right"), [{pair: (0, 1, 0) for pair in all_pairs(rule.kinds())}])


def left_comb(rule):
    need_rule(rule)
    return Comb(rule, arrows_to(rule, "left"), [{pair: (0, 0, 1) for pair in all_pairs(rule.kinds())}])


def need_combed_row(comb, row):
    need_comb(comb)
    need_row(comb.rule().kinds(), row)


def need_combed_grouping(comb, row, grouping):
    need_comb(comb)
    need_grouped_row(comb.rule().kinds(), row, grouping)


def need_two_combed(comb, row, one, other):
    need_combed_grouping(comb, row, one)
    need_grouping(len(row), other)


def deeds_along(arrows, spans, grouping):
    """The ascending list of the deeds along arrows that fit, in a row of whose spans the kinds are told."""
    return [deed for deed in deeds_at(list(grouping)) if arrows.get(triple_at(spans, deed)) == deed[0]]


def walked_on(along, grouping):
    """The deeds that are made as long as there are some, and the grouping behind them.

    `along` tells a list of the deeds that may be made at a grouping.
    """
    walked, there = [], list(grouping)
    deeds = along(there)
    while deeds:
        walked.append(deeds[0])
        there = deed_made(there, deeds[0])
        deeds = along(there)
    return walked, there


def combed(arrows, spans, grouping):
    """The deeds of any combing from a grouping, and the last grouping to which it leads."""
    return walked_on(lambda there: deeds_along(arrows, spans, there), grouping)


def spans_of(comb, row):
    return kinds_of_spans(comb.rule().kinds(), row)


def onward_along(comb, row):
    """A function that tells to which groupings one deed along the arrows leads from a grouping."""
    arrows, spans = comb.arrows(), spans_of(comb, row)
    return lambda here: [tuple(deed_made(here, deed)) for deed in deeds_along(arrows, spans, here)]


def open_deeds(comb, row, grouping):
    need_combed_grouping(comb, row, grouping)
    return deeds_along(comb.arrows(), spans_of(comb, row), grouping)


def is_last(comb, row, grouping):
    return not open_deeds(comb, row, grouping)


def combing(comb, row, grouping):
    need_combed_grouping(comb, row, grouping)
    return combed(comb.arrows(), spans_of(comb, row), grouping)[0]


def is_combing(comb, row, grouping, value):
    need_combed_grouping(comb, row, grouping)
    if not is_deeds(value):
        return False
    arrows, spans, there = comb.arrows(), spans_of(comb, row), grouping
    for deed in value:
        if deed not in deeds_along(arrows, spans, there):
            return False
        there = deed_made(there, deed)
    return not deeds_along(arrows, spans, there)


def last_ones(comb, row, grouping):
    need_combed_grouping(comb, row, grouping)
    onward = onward_along(comb, row)
    return as_groupings([there for there in distances(tuple(grouping), onward) if not onward(there)])


def all_lasts(comb, row):
    need_combed_row(comb, row)
    arrows, spans = comb.arrows(), spans_of(comb, row)
    return [some for some in groupings(len(row)) if not deeds_along(arrows, spans, some)]


def summed_up(comb, row, grouping, told):
    """What is told of a grouping by the list of what is told of those to which one deed along the arrows leads."""
    need_combed_grouping(comb, row, grouping)
    onward, spans, layers = onward_along(comb, row), spans_of(comb, row), comb.layers()
    # Each deed makes the weights less, so those to which deeds lead stand ahead.
    order = sorted([([weight_by(layer, spans, list(here)) for layer in layers], here)
                    for here in distances(tuple(grouping), onward)])
    known = {}
    for _, here in order:
        known[here] = told([known[there] for there in onward(here)])
    return known[tuple(grouping)]


def shortest_combing(comb, row, grouping):
    return summed_up(comb, row, grouping, lambda found: min(found) + 1 if found else 0)


def longest_combing(comb, row, grouping):
    return summed_up(comb, row, grouping, lambda found: max(found) + 1 if found else 0)


def many_combings(comb, row, grouping):
    return summed_up(comb, row, grouping, lambda found: sum(found) if found else 1)


def meetings(comb, row, one, other):
    """The groupings with the least sum of the numbers of deeds that lead to them from both."""
    need_two_combed(comb, row, one, other)
    onward = onward_along(comb, row)
    far, near = distances(tuple(one), onward), distances(tuple(other), onward)
    sums = {there: far[there] + near[there] for there in far if there in near}
    least = min(sums.values(), default=0)
    return as_groupings([there for there in sums if sums[there] == least])


def meeting(comb, row, one, other):
    found = meetings(comb, row, one, other)
    return found[0] if found else None


def is_meeting(comb, row, one, other, value):
    found = meetings(comb, row, one, other)
    return is_grouping_of(len(row), value) and value in found
