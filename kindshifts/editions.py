"""Changes of a rule and of a row, and what they part and join."""

from kindshifts.errors import Apart, InvalidChange, InvalidChanges, InvalidRow
from kindshifts.forms import is_count
from kindshifts.groupings import need_grouping, need_row
from kindshifts.joining import all_classes, are_joined
from kindshifts.kinds import has_kinds, is_kind, is_row_of
from kindshifts.orders import class_marks
from kindshifts.rules import Rule, is_triple_of, need_rule


def is_word_triple(value):
    return isinstance(value, tuple) and len(value) == 3 and all([is_kind(name) for name in value])


def is_change(value):
    """Whether any object is a change by its form."""
    if not isinstance(value, tuple):
        return False
    if len(value) == 2:
        return value[0] in ("let", "bar") and is_word_triple(value[1])
    return len(value) == 3 and value[0] == "thing" and is_count(value[1]) and is_kind(value[2])


def change_fits(rule, row, change):
    if change[0] == "thing":
        _, place, kind = change
        return place < len(row) and has_kinds(rule.kinds(), [kind]) and row[place] != kind
    word, triple = change
    return is_triple_of(rule.kinds(), triple) and (triple in rule.triples()) == (word == "bar")


def change_made(rule, row, change):
    """The rule and the row behind a change that fits."""
    if change[0] == "thing":
        _, place, kind = change
        return rule, row[:place] + [kind] + row[place + 1:]
    word, triple = change
    kept = [some for some in rule.triples() if some != triple]
    return Rule(rule.kinds(), sorted(kept + [triple]) if word == "let" else kept), list(row)


def need_ruled_row(rule, row):
    need_rule(rule)
    need_row(rule.kinds(), row)


def need_changes(changes):
    if not isinstance(changes, list) or not all([is_change(change) for change in changes]):
        raise InvalidChanges(changes)


def changed(rule, row, change):
    need_ruled_row(rule, row)
    if not is_change(change) or not change_fits(rule, row, change):
        raise InvalidChange(change)
    return change_made(rule, row, change)


def changed_by(rule, row, changes):
    need_ruled_row(rule, row)
    need_changes(changes)
    made = (rule, list(row))
    for change in changes:
        made = changed(made[0], made[1], change)
    return made


def join_counts(rule, row, changes):
    behind_rule, behind_row = changed_by(rule, row, changes)
    ahead, behind = class_marks(rule, row), class_marks(behind_rule, behind_row)
    both, ahead_alone, behind_alone = 0, 0, 0
    order = list(ahead)
    for place, here in enumerate(order):
        for there in order[:place]:
            was, comes = ahead[here] == ahead[there], behind[here] == behind[there]
            both += int(was and comes)
            ahead_alone += int(was and not comes)
            behind_alone += int(comes and not was)
    return (both, ahead_alone, behind_alone)


def fitting_lots(rule, row, changes):
    """The lots of a list of changes, each with the rule and the row behind it, lesser ones first."""
    made = [([], (rule, row))]
    for place, change in enumerate(changes):
        fit = [(lot + [place], change_made(there[0], there[1], change)) for lot, there in made
               if change_fits(there[0], there[1], change)]
        made = made + fit
    return made


def least_lots(rule, row, changes, one, other, wanted):
    """The ascending list of the lots behind which two groupings are joined, or are not, and of no other within."""
    found = []
    for lot, there in fitting_lots(rule, row, changes):
        if are_joined(there[0], there[1], one, other) == wanted and not any([lies_within(held, lot) for held in found]):
            found.append(lot)
    return sorted(found)


def lies_within(some, lot):
    return all([place in lot for place in some])


def need_lots(rule, row, changes, one, other):
    need_ruled_row(rule, row)
    need_changes(changes)
    need_grouping(len(row), one)
    need_grouping(len(row), other)


def parting_lots(rule, row, changes, one, other):
    need_lots(rule, row, changes, one, other)
    if not are_joined(rule, row, one, other):
        raise Apart(other)
    return least_lots(rule, row, changes, one, other, False)


def joining_lots(rule, row, changes, one, other):
    need_lots(rule, row, changes, one, other)
    return least_lots(rule, row, changes, one, other, True)


def like_rows(rule, row, others):
    need_ruled_row(rule, row)
    if not isinstance(others, list) or not all([is_row_of(rule.kinds(), other) for other in others]):
        raise InvalidRow(others)
    if any([len(other) != len(row) for other in others]):
        raise InvalidRow(others)
    classes = all_classes(rule, row)
    return [place for place, other in enumerate(others) if all_classes(rule, other) == classes]
