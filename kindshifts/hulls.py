"""The least settled rules that hold a rule, and the greatest ones that lie within it."""

from kindshifts.combing import arrows_to, combed, deeds_along
from kindshifts.errors import InvalidRule, InvalidWord
from kindshifts.forms import WORDS, deed_made, is_deeds
from kindshifts.groupings import kinds_of_spans
from kindshifts.kinds import need_kinds
from kindshifts.rules import (Rule, all_fours, all_triples, chain_back, edges_of, is_four_of, is_triple_of, need_four,
                              need_grouped_row, need_rule, need_two_groupings)

# The two edges of a four that ask for the others, and those that they force.
ASKED = {"right": (0, 3), "left": (2, 4)}
FORCED = {"right": (1, 2, 4), "left": (0, 1, 3)}


def need_word(word):
    if word not in WORDS:
        raise InvalidWord(word)


def need_rule_and_word(rule, word):
    need_rule(rule)
    need_word(word)


def wish_of(table, word, four):
    """The two triples that a four asks for, and the three that it forces then."""
    edges = edges_of(table, four)
    return [edges[place] for place in ASKED[word]], [edges[place] for place in FORCED[word]]


def wishes(kinds, word):
    """All fours with what they ask for and what they force."""
    table = kinds.table()
    return [(four,) + wish_of(table, word, four) for four in all_fours(kinds)]


def has_all(held, triples):
    return all([triple in held for triple in triples])


def openings(rule, word):
    """The fours that ask for triples of a rule and force others."""
    held = rule.triples()
    return [four for four, asked, forced in wishes(rule.kinds(), word)
            if has_all(held, asked) and not has_all(held, forced)]


def is_settled_to(rule, word):
    return opening(rule, word) is None


def opening(rule, word):
    need_rule_and_word(rule, word)
    found = openings(rule, word)
    return found[0] if found else None


def is_opening(rule, word, value):
    need_rule_and_word(rule, word)
    return is_four_of(rule.kinds(), value) and value in openings(rule, word)


def rounds_by(rule, wanted):
    """The triples that wishes bring to a rule, ascending, with the rounds in which they come."""
    held, many = {triple: 0 for triple in rule.triples()}, 0
    new = rule.triples()
    while new:
        new = forced_at_once(held, wanted)
        many += 1
        for triple in new:
            held[triple] = many
    return {triple: held[triple] for triple in sorted(held) if held[triple] > 0}


def forced_at_once(held, wanted):
    """The ascending list of the triples that what is held forces, besides what is held."""
    return sorted(set([triple for _, asked, forced in wanted if has_all(held, asked)
                       for triple in forced if triple not in held]))


def hull_by(rule, wanted):
    return Rule(rule.kinds(), sorted(rule.triples() + list(rounds_by(rule, wanted))))


def hull(rule, word):
    need_rule_and_word(rule, word)
    return hull_by(rule, wishes(rule.kinds(), word))


def both_hull(rule):
    need_rule(rule)
    return hull_by(rule, wishes(rule.kinds(), "right") + wishes(rule.kinds(), "left"))


def rounds(rule, word):
    need_rule_and_word(rule, word)
    return rounds_by(rule, wishes(rule.kinds(), word))


def force(rule, word, four):
    need_rule_and_word(rule, word)
    need_four(rule.kinds(), four)
    return forced_at_once(rule.triples(), [(four,) + wish_of(rule.kinds().table(), word, four)])


def reasons(rule, word):
    need_rule_and_word(rule, word)
    wanted, held, told = wishes(rule.kinds(), word), rule.triples(), []
    new = held
    while new:
        new = reasons_at_once(held, wanted)
        told = told + new
        held = held + [triple for triple, _ in new]
    return told


def reasons_at_once(held, wanted):
    """The triples that what is held forces, each with the first four that forces it."""
    found = {}
    for four, asked, forced in wanted:
        if has_all(held, asked):
            for triple in forced:
                if triple not in held:
                    found.setdefault(triple, four)
    return [(triple, found[triple]) for triple in sorted(found)]


def are_reasons(rule, word, value):
    need_rule_and_word(rule, word)
    if not isinstance(value, list):
        return False
    table, held = rule.kinds().table(), rule.triples()
    for told in value:
        if not is_reason_form(rule.kinds(), told):
            return False
        triple, four = told
        asked, forced = wish_of(table, word, four)
        if triple in held or triple not in forced or not has_all(held, asked):
            return False
        held = held + [triple]
    return sorted(held) == hull(rule, word).triples()


def is_reason_form(kinds, value):
    if not isinstance(value, tuple) or len(value) != 2:
        return False
    return is_triple_of(kinds, value[0]) and is_four_of(kinds, value[1])


# Where all lists of triples are tried, a list is a whole number: it has a bit for
# each of its triples.


def bits_of(kinds):
    return {triple: 1 << place for place, triple in enumerate(all_triples(kinds))}


def wish_bits(kinds, word):
    """The bits of what fours ask for and of what they force."""
    bits, found = bits_of(kinds), {}
    for _, asked, forced in wishes(kinds, word):
        found[(bits_together(bits, asked), bits_together(bits, forced))] = True
    return list(found)


def bits_together(bits, triples):
    together = 0
    for triple in triples:
        together = together | bits[triple]
    return together


def lists_within(kinds, triples):
    """All lists of some ascending triples, with their bits, each behind all that lie within it."""
    bits, lists = bits_of(kinds), [(0, [])]
    for triple in triples:
        lists = lists + [(held | bits[triple], some + [triple]) for held, some in lists]
    return lists


def settled_lists(kinds, triples, word):
    """Those of these lists that are settled to a side, with their bits."""
    every = bits_together(bits_of(kinds), triples)
    wanted = [(asked, forced) for asked, forced in wish_bits(kinds, word) if (asked & every) == asked]
    return [(held, some) for held, some in lists_within(kinds, triples)
            if all([(held & asked) != asked or (held & forced) == forced for asked, forced in wanted])]


def settled_within(rule, word):
    need_rule_and_word(rule, word)
    kept = []
    for held, some in reversed(settled_lists(rule.kinds(), rule.triples(), word)):
        if not any([(held & wider) == held for wider, _ in kept]):
            kept.append((held, some))
    return sorted([some for _, some in kept])


def hull_bits(held, wanted):
    before = None
    while held != before:
        before = held
        for asked, forced in wanted:
            if (held & asked) == asked:
                held = held | forced
    return held


def least_bases(rule, word):
    need_rule_and_word(rule, word)
    wanted, kept = wish_bits(rule.kinds(), word), []
    every = bits_together(bits_of(rule.kinds()), rule.triples())
    for held, some in lists_within(rule.kinds(), rule.triples()):
        has_lesser = any([(held & lesser) == lesser for lesser, _ in kept])
        if not has_lesser and (hull_bits(held, wanted) & every) == every:
            kept.append((held, some))
    return sorted([some for _, some in kept])


def many_settled(kinds, word):
    need_kinds(kinds)
    need_word(word)
    return len(settled_lists(kinds, all_triples(kinds), word))


def told_by_hulls(rule, word, row, one, other):
    need_rule_and_word(rule, word)
    need_two_groupings(rule, row, one, other)
    spans = kinds_of_spans(rule.kinds(), row)
    if not joined_to(hull(rule, word).triples(), word, spans, one, other):
        return "apart"
    if any([joined_to(some, word, spans, one, other) for some in settled_within(rule, word)]):
        return "joined"
    return "open"


def joined_to(triples, word, spans, one, other):
    """Whether two groupings are joined by triples that are settled to a side."""
    arrows = {triple: word for triple in triples}
    return combed(arrows, spans, one)[1] == combed(arrows, spans, other)[1]


def need_settled_to_both(rule):
    need_rule(rule)
    if openings(rule, "right") or openings(rule, "left"):
        raise InvalidRule(rule)


def through(rule, row, grouping):
    need_settled_to_both(rule)
    need_grouped_row(rule.kinds(), row, grouping)
    spans = kinds_of_spans(rule.kinds(), row)
    to_first, to_last = [combed(arrows_to(rule, word), spans, grouping)[0] for word in ("left", "right")]
    return chain_back(to_first) + to_last


def is_through(rule, row, grouping, value):
    need_settled_to_both(rule)
    need_grouped_row(rule.kinds(), row, grouping)
    if not is_deeds(value):
        return False
    arrows, spans = arrows_to(rule, "right"), kinds_of_spans(rule.kinds(), row)
    there, last = [combed(arrows_to(rule, word), spans, grouping)[1] for word in ("left", "right")]
    passed = [there]
    for deed in value:
        if deed not in deeds_along(arrows, spans, there):
            return False
        there = deed_made(there, deed)
        passed.append(there)
    return grouping in passed and there == last
