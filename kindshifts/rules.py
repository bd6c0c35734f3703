"""Rules that tell which triples of kinds let a block be shifted, and the deeds that shift one."""

from kindshifts.errors import InvalidChain, InvalidDeed, InvalidFour, InvalidRule, InvalidTriples
from kindshifts.forms import (deed_fits, deed_made, deeds_at, is_ascending, is_deed, is_deeds, parts_of_deed, turned,
                              walk_end)
from kindshifts.groupings import need_grouping, need_row
from kindshifts.kinds import fold, has_kinds, need_kinds, opposite

# The corners that each edge of a four joins, in the order of the edges.
EDGES = ((0, 1), (1, 2), (2, 3), (0, 4), (4, 3))


class Rule:
    def __init__(self, kinds, triples):
        need_kinds(kinds)
        need_triples(kinds, triples)
        self._kinds = kinds
        self._triples = list(triples)

    def __eq__(self, other):
        return isinstance(other, Rule) and self._kinds == other._kinds and self._triples == other._triples

    def kinds(self):
        return self._kinds

    def triples(self):
        return list(self._triples)


def need_rule(value):
    if not isinstance(value, Rule):
        raise InvalidRule(value)


def is_triple_of(kinds, value):
    return isinstance(value, tuple) and len(value) == 3 and has_kinds(kinds, value)


def are_triples_of(kinds, value):
    """Whether any object is an ascending list of triples of kinds."""
    if not isinstance(value, list) or not all([is_triple_of(kinds, triple) for triple in value]):
        return False
    return is_ascending(value)


def need_triples(kinds, triples):
    if not are_triples_of(kinds, triples):
        raise InvalidTriples(triples)


def is_four_of(kinds, value):
    return isinstance(value, list) and len(value) == 4 and has_kinds(kinds, value)


def need_four(kinds, four):
    if not is_four_of(kinds, four):
        raise InvalidFour(four)


def all_fours(kinds):
    """The ascending list of all fours of kinds."""
    names = kinds.kinds()
    return [[a, b, c, d] for a in names for b in names for c in names for d in names]


def need_grouped_row(kinds, row, grouping):
    need_row(kinds, row)
    need_grouping(len(row), grouping)


def all_triples(kinds):
    need_kinds(kinds)
    names = kinds.kinds()
    return [(a, b, c) for a in names for b in names for c in names]


def triple_of(kinds, row, deed):
    """The triple of a deed within the row, whether it fits a grouping or not."""
    table = kinds.table()
    return tuple([fold(table, row[first:end]) for (first, end) in parts_of_deed(deed)])


def triple_at(spans, deed):
    """The triple of a deed within a row of whose spans the kinds are told."""
    return tuple([spans[span] for span in parts_of_deed(deed)])


def is_let(rule, row, deed):
    return triple_of(rule.kinds(), row, deed) in rule.triples()


def fitting_deeds(rule, row, grouping):
    need_rule(rule)
    need_grouped_row(rule.kinds(), row, grouping)
    return deeds_at(grouping)


def let_deeds(rule, row, grouping):
    return [deed for deed in fitting_deeds(rule, row, grouping) if is_let(rule, row, deed)]


def deed_triple(rule, row, deed):
    need_rule(rule)
    need_row(rule.kinds(), row)
    if not is_deed(deed) or deed[4] > len(row):
        raise InvalidDeed(deed)
    return triple_of(rule.kinds(), row, deed)


def done(rule, row, grouping, deed):
    need_rule(rule)
    need_grouped_row(rule.kinds(), row, grouping)
    if not is_deed(deed) or not deed_fits(grouping, deed) or not is_let(rule, row, deed):
        raise InvalidDeed(deed)
    return deed_made(grouping, deed)


def contrary(deed):
    if not is_deed(deed):
        raise InvalidDeed(deed)
    return turned(deed)


def led_to(rule, row, grouping, value):
    """The grouping to which any object leads as a chain, None unless it is one."""
    there = walk_end(grouping, value)
    if there is None or first_barred(rule, row, value) is not None:
        return None
    return there


def first_barred(rule, row, chain):
    """The position of the first deed that is not let, None if all are."""
    for place, deed in enumerate(chain):
        if not is_let(rule, row, deed):
            return place
    return None


def chain_end(rule, row, grouping, chain):
    need_rule(rule)
    need_grouped_row(rule.kinds(), row, grouping)
    there = led_to(rule, row, grouping, chain)
    if there is None:
        raise InvalidChain(chain)
    # Behind no deed it would be the list that was passed.
    return list(there)


def is_chain(rule, row, one, other, value):
    need_two_groupings(rule, row, one, other)
    return led_to(rule, row, one, value) == other


def chain_back(chain):
    if not is_deeds(chain):
        raise InvalidChain(chain)
    return [turned(deed) for deed in reversed(chain)]


def rule_by_places(kinds, firsts, seconds, thirds):
    need_kinds(kinds)
    need_kinds_list(kinds, firsts)
    need_kinds_list(kinds, seconds)
    need_kinds_list(kinds, thirds)
    return Rule(kinds, [(a, b, c) for a in firsts for b in seconds for c in thirds])


def need_kinds_list(kinds, names):
    if not isinstance(names, list) or not has_kinds(kinds, names) or not is_ascending(names):
        raise InvalidTriples(names)


def rule_with(rule, triples):
    need_rule(rule)
    need_triples(rule.kinds(), triples)
    return Rule(rule.kinds(), sorted(set(rule.triples() + triples)))


def rule_without(rule, triples):
    need_rule(rule)
    need_triples(rule.kinds(), triples)
    return Rule(rule.kinds(), [triple for triple in rule.triples() if triple not in triples])


def mirrored_rule(rule):
    need_rule(rule)
    return Rule(opposite(rule.kinds()), sorted([(c, b, a) for (a, b, c) in rule.triples()]))


def need_two_groupings(rule, row, one, other):
    """Asks for a rule, a row of its kinds and two groupings of it."""
    need_rule(rule)
    need_grouped_row(rule.kinds(), row, one)
    need_grouping(len(row), other)


def need_walk(grouping, chain):
    if walk_end(grouping, chain) is None:
        raise InvalidChain(chain)


def triples_used(kinds, row, grouping, chain):
    need_kinds(kinds)
    need_grouped_row(kinds, row, grouping)
    need_walk(grouping, chain)
    return sorted(set([triple_of(kinds, row, deed) for deed in chain]))


def barring_deed(rule, row, grouping, chain):
    need_rule(rule)
    need_grouped_row(rule.kinds(), row, grouping)
    need_walk(grouping, chain)
    return first_barred(rule, row, chain)


def five_edges(kinds, four):
    need_kinds(kinds)
    need_four(kinds, four)
    return edges_of(kinds.table(), four)


def edges_of(table, four):
    """The triples of the five edges of a four, in their order."""
    a, b, c, d = four
    return [(a, b, c), (a, table[(b, c)], d), (b, c, d), (table[(a, b)], c, d), (a, b, table[(c, d)])]


def five_parts(rule, four):
    need_rule(rule)
    edges = five_edges(rule.kinds(), four)
    let = rule.triples()
    # Each corner has the least corner of its part as its mark.
    marks = [0, 1, 2, 3, 4]
    for (one, other), triple in zip(EDGES, edges):
        if triple in let:
            low, high = min(marks[one], marks[other]), max(marks[one], marks[other])
            marks = [low if mark == high else mark for mark in marks]
    return [[corner for corner in range(5) if marks[corner] == mark] for mark in sorted(set(marks))]
