"""Which groupings of a row the deeds of a rule join, and by how many deeds."""

from kindshifts.errors import Apart
from kindshifts.forms import deed_made, deeds_at, is_ascending, is_grouping_of
from kindshifts.groupings import groupings, kinds_of_spans, need_row
from kindshifts.rules import (is_chain, need_grouped_row, need_rule, need_two_groupings, rule_without, triple_at,
                              triples_used)

# Where groupings are looked up they are tuples of their blocks, so that they can be keys.


def distances(start, onward):
    """The least numbers of steps that lead from a start to all that it leads to, nearer ones first.

    `onward` tells a list of what one step leads to.
    """
    far, edge, many = {start: 0}, [start], 0
    while edge:
        many += 1
        found = []
        for here in edge:
            for there in onward(here):
                if there not in far:
                    far[there] = many
                    found.append(there)
        edge = found
    return far


def let_onward(rule, row):
    """A function that tells to which groupings one let deed leads from a grouping."""
    spans, let = kinds_of_spans(rule.kinds(), row), {triple: True for triple in rule.triples()}
    return lambda here: [tuple(deed_made(here, deed)) for deed in deeds_at(list(here)) if triple_at(spans, deed) in let]


def distances_from(rule, row, grouping):
    return distances(tuple(grouping), let_onward(rule, row))


def as_groupings(keys):
    return sorted([list(key) for key in keys])


def are_joined(rule, row, one, other):
    need_two_groupings(rule, row, one, other)
    return tuple(other) in distances_from(rule, row, one)


def class_of(rule, row, grouping):
    need_rule(rule)
    need_grouped_row(rule.kinds(), row, grouping)
    return as_groupings(distances_from(rule, row, grouping))


def all_classes(rule, row):
    need_rule(rule)
    need_row(rule.kinds(), row)
    onward, seen, classes = let_onward(rule, row), {}, []
    for grouping in groupings(len(row)):
        if tuple(grouping) not in seen:
            found = as_groupings(distances(tuple(grouping), onward))
            classes.append(found)
            for some in found:
                seen[tuple(some)] = True
    return classes


def class_count(rule, row):
    return len(all_classes(rule, row))


def lone_groupings(rule, row):
    return [some[0] for some in all_classes(rule, row) if len(some) == 1]


def joined_by_all(rule, row):
    return class_count(rule, row) == 1


def fewest_deeds(rule, row, one, other):
    need_two_groupings(rule, row, one, other)
    return distances_from(rule, row, one).get(tuple(other))


def deed_between(here, there):
    """The deed that leads from a grouping to another one, which is one deed away."""
    for deed in deeds_at(list(here)):
        if tuple(deed_made(here, deed)) == there:
            return deed
    return None


def shortest_chain(rule, row, one, other):
    need_two_groupings(rule, row, one, other)
    onward, here, chain = let_onward(rule, row), tuple(one), []
    # What a deed leads to it comes from, too, so the fewest deeds are the same both ways.
    far = distances(tuple(other), onward)
    if here not in far:
        return None
    while far[here] > 0:
        nearer = [there for there in onward(here) if far[there] < far[here]][0]
        chain.append(deed_between(here, nearer))
        here = nearer
    return chain


def is_shortest_chain(rule, row, one, other, value):
    return is_chain(rule, row, one, other, value) and len(value) == fewest_deeds(rule, row, one, other)


def many_shortest(rule, row, one, other):
    need_two_groupings(rule, row, one, other)
    onward, many = let_onward(rule, row), {tuple(one): 1}
    far = distances(tuple(one), onward)
    for here in far:
        for there in onward(here):
            if far[there] == far[here] + 1:
                many[there] = many.get(there, 0) + many[here]
    return many.get(tuple(other), 0)


def is_shut_list(rule, row, value):
    need_rule(rule)
    need_row(rule.kinds(), row)
    if not isinstance(value, list) or not all([is_grouping_of(len(row), some) for some in value]):
        return False
    if not is_ascending(value):
        return False
    onward, held = let_onward(rule, row), {tuple(some): True for some in value}
    return all([there in held for here in held for there in onward(here)])


def parting_list(rule, row, one, other):
    need_two_groupings(rule, row, one, other)
    found = class_of(rule, row, one)
    return None if other in found else found


def is_parting_list(rule, row, one, other, value):
    need_two_groupings(rule, row, one, other)
    return is_shut_list(rule, row, value) and one in value and other not in value


def farthest(rule, row, grouping):
    need_rule(rule)
    need_grouped_row(rule.kinds(), row, grouping)
    return max(distances_from(rule, row, grouping).values())


def farthest_groupings(rule, row, grouping):
    many = farthest(rule, row, grouping)
    far = distances_from(rule, row, grouping)
    return as_groupings([there for there in far if far[there] == many])


def widest(rule, row):
    need_rule(rule)
    need_row(rule.kinds(), row)
    onward = let_onward(rule, row)
    return max([max(distances(tuple(grouping), onward).values()) for grouping in groupings(len(row))])


def needed_triples(rule, row, one, other):
    chain = shortest_chain(rule, row, one, other)
    if chain is None:
        raise Apart(other)
    # A triple that one chain does without is not needed.
    used = triples_used(rule.kinds(), row, one, chain)
    return [triple for triple in used if not are_joined(rule_without(rule, [triple]), row, one, other)]


def idle_triples(rule, row):
    need_rule(rule)
    need_row(rule.kinds(), row)
    spans = kinds_of_spans(rule.kinds(), row)
    places = range(len(row) + 1)
    # Any three spans side by side are the A, B and C of a deed at some grouping.
    busy = {(spans[(first, second)], spans[(second, third)], spans[(third, end)]): True
            for first in places for second in places if first < second
            for third in places if second < third for end in places if third < end}
    return [triple for triple in rule.triples() if triple not in busy]
