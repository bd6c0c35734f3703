"""Finer and coarser rules, and rules carried along maps of their kinds."""

from kindshifts.errors import InvalidMap, Unlike
from kindshifts.forms import is_ascending, is_grouping_of
from kindshifts.groupings import need_row
from kindshifts.joining import all_classes
from kindshifts.kinds import Kinds, closed_lists, cut_to, is_from, is_kind, is_row_of, need_kinds, need_map
from kindshifts.rules import Rule, all_triples, need_rule


def need_two_rules(one, other):
    need_rule(one)
    need_rule(other)


def need_same_kinds(one, other):
    need_two_rules(one, other)
    if one.kinds() != other.kinds():
        raise Unlike(other)


def is_finer(one, other):
    return not rest_rule(one, other).triples()


def meet_rule(one, other):
    need_same_kinds(one, other)
    held = other.triples()
    return Rule(one.kinds(), [triple for triple in one.triples() if triple in held])


def union_rule(one, other):
    need_same_kinds(one, other)
    return Rule(one.kinds(), sorted(set(one.triples() + other.triples())))


def rest_rule(one, other):
    need_same_kinds(one, other)
    held = other.triples()
    return Rule(one.kinds(), [triple for triple in one.triples() if triple not in held])


def need_shared_row(one, other, row):
    need_same_kinds(one, other)
    need_row(one.kinds(), row)


def alike_on(one, other, row):
    need_shared_row(one, other, row)
    return all_classes(one, row) == all_classes(other, row)


def class_marks(rule, row):
    """The positions of their classes, by the groupings of a row as tuples."""
    return {tuple(some): place for place, found in enumerate(all_classes(rule, row)) for some in found}


def is_parted(marks, others, here, there):
    """Whether two groupings are joined by just one of two rules whose marks are told."""
    return (marks[here] == marks[there]) != (others[here] == others[there])


def parting_pair(one, other, row):
    need_shared_row(one, other, row)
    marks, others = class_marks(one, row), class_marks(other, row)
    for here in marks:
        for there in marks:
            if is_parted(marks, others, here, there):
                return (list(here), list(there))
    return None


def is_parting_pair(one, other, row, value):
    need_shared_row(one, other, row)
    if not isinstance(value, tuple) or len(value) != 2:
        return False
    if not all([is_grouping_of(len(row), some) for some in value]):
        return False
    return is_parted(class_marks(one, row), class_marks(other, row), tuple(value[0]), tuple(value[1]))


def sent_along(sent, names):
    return tuple([sent[name] for name in names])


def pulled(rule, kinds, sent):
    held = rule.triples()
    return Rule(kinds, [triple for triple in all_triples(kinds) if sent_along(sent, triple) in held])


def pulled_rule(rule, kinds, sent):
    need_rule(rule)
    need_map(kinds, rule.kinds(), sent)
    return pulled(rule, kinds, sent)


def row_sent(kinds, row, sent):
    need_kinds(kinds)
    need_row(kinds, row)
    if not is_from(kinds, sent) or not all([is_kind(name) for name in sent.values()]):
        raise InvalidMap(sent)
    return [sent[name] for name in row]


def carries(one, other, sent):
    need_two_rules(one, other)
    need_map(one.kinds(), other.kinds(), sent)
    held = other.triples()
    return all([sent_along(sent, triple) in held for triple in one.triples()])


def pushed_rule(rule, kinds, sent):
    need_rule(rule)
    need_map(rule.kinds(), kinds, sent)
    return Rule(kinds, sorted(set([sent_along(sent, triple) for triple in rule.triples()])))


def is_pulled(one, other, sent):
    need_two_rules(one, other)
    need_map(one.kinds(), other.kinds(), sent)
    return pulled(other, one.kinds(), sent) == one


def triples_among(rule, names):
    """The triples of a rule whose kinds are all among some."""
    return [triple for triple in rule.triples() if all([name in names for name in triple])]


def cut_rule(rule, names):
    need_rule(rule)
    return Rule(cut_to(rule.kinds(), names), triples_among(rule, names))


def free_lists(rule):
    need_rule(rule)
    return [names for names in closed_lists(rule.kinds()) if len(triples_among(rule, names)) == len(names) ** 3]


def still_lists(rule):
    need_rule(rule)
    return [names for names in closed_lists(rule.kinds()) if not triples_among(rule, names)]


def conduct(rule, name, marks):
    """What kinds of one list have to share: the lists of what they make, and which triples with them are let."""
    table, names, held = rule.kinds().table(), rule.kinds().kinds(), rule.triples()
    made = [(marks[table[(name, other)]], marks[table[(other, name)]]) for other in names]
    let = [((name, a, b) in held, (a, name, b) in held, (a, b, name) in held) for a in names for b in names]
    return [marks[name], made, let]


def alike_marks(rule):
    """For each kind, ascending, the first kind that is alike."""
    names = rule.kinds().kinds()
    before, marks = {}, {name: names[0] for name in names}
    # Lists are parted as long as two kinds of one do not share what they have to.
    while marks != before:
        before = marks
        shown = [conduct(rule, name, before) for name in names]
        marks = {name: names[shown.index(told)] for name, told in zip(names, shown)}
    return marks


def lists_marked(marks):
    """The lists of the kinds that have one mark."""
    return [[name for name in marks if marks[name] == mark] for mark in marks if marks[mark] == mark]


def alike_kinds(rule):
    need_rule(rule)
    return lists_marked(alike_marks(rule))


def is_sorted_along(rule, value):
    need_rule(rule)
    if not isinstance(value, list) or not all([is_row_of(rule.kinds(), names) for names in value]):
        return False
    marks = {name: names[0] for names in value for name in names}
    if sorted([name for names in value for name in names]) != rule.kinds().kinds():
        return False
    if not is_ascending(value) or not all([is_ascending(names) for names in value]):
        return False
    return all([conduct(rule, name, marks) == conduct(rule, marks[name], marks) for name in marks])


def folded_rule(rule):
    sent = folding(rule)
    table, firsts = rule.kinds().table(), [name for name in sent if sent[name] == name]
    kinds = Kinds({(a, b): sent[table[(a, b)]] for a in firsts for b in firsts})
    return Rule(kinds, triples_among(rule, firsts))


def folding(rule):
    need_rule(rule)
    return alike_marks(rule)
