"""Arrows that tell one way for each triple, and whether combing along them ends."""

from math import gcd

from kindshifts.errors import InvalidArrows, InvalidCount, InvalidNumbers
from kindshifts.forms import (WORDS, deed_made, deeds_at, is_count, is_grouping_of, is_whole, splits_at, walk_end)
from kindshifts.groupings import groupings, kinds_of_spans
from kindshifts.kinds import is_row_of
from kindshifts.rules import need_grouped_row, need_rule, triple_at


def is_arrows_of(rule, value):
    if not isinstance(value, dict) or len(value) != len(rule.triples()):
        return False
    return all([triple in value and value[triple] in WORDS for triple in rule.triples()])


def need_arrows(rule, arrows):
    need_rule(rule)
    if not is_arrows_of(rule, arrows):
        raise InvalidArrows(arrows)


def all_pairs(kinds):
    names = kinds.kinds()
    return [(a, b) for a in names for b in names]


def is_whole_tuple(value, many):
    """Whether any object is a tuple of so many whole numbers."""
    return isinstance(value, tuple) and len(value) == many and all([is_whole(number) for number in value])


def is_layer_of(kinds, value):
    pairs = all_pairs(kinds)
    if not isinstance(value, dict) or len(value) != len(pairs):
        return False
    return all([pair in value and is_whole_tuple(value[pair], 3) for pair in pairs])


def blocks_changed(table, triple, word):
    """The blocks that a deed takes out, with -1, and puts in, with 1.

    Each has its pair, and its first and its second part told by those of A, B
    and C (0, 1 and 2) that make it.
    """
    a, b, c = triple
    to_left = [((a, b), (0,), (1,)), ((table[(a, b)], c), (0, 1), (2,))]
    to_right = [((b, c), (1,), (2,)), ((a, table[(b, c)]), (0,), (1, 2))]
    out, put = (to_left, to_right) if word == "right" else (to_right, to_left)
    return [(-1,) + block for block in out] + [(1,) + block for block in put]


def change_of(table, triple, word, layer):
    """The four whole numbers c0, cx, cy and cz of a triple with its arrow."""
    told = [0, 0, 0, 0]
    for sign, pair, first, second in blocks_changed(table, triple, word):
        alone, by_first, by_second = layer[pair]
        told[0] += sign * alone
        for part in first:
            told[part + 1] += sign * by_first
        for part in second:
            told[part + 1] += sign * by_second
    return told


def rises(change):
    return max(change[1:]) > 0 or sum(change) > 0


def falls(change):
    return not rises(change) and sum(change) < 0


def has_layers(rule, arrows, value):
    """Whether any object is layers of arrows of a rule."""
    kinds, triples = rule.kinds(), rule.triples()
    if not isinstance(value, list) or not all([is_layer_of(kinds, layer) for layer in value]):
        return False
    if not value and triples:
        return False
    table = kinds.table()
    return all([falls_somewhere([change_of(table, triple, arrows[triple], layer) for layer in value])
                for triple in triples])


def falls_somewhere(changes):
    """Whether one of the changes by layers falls, and those ahead of it never rise."""
    for change in changes:
        if rises(change) or falls(change):
            return falls(change)
    return False


def are_layers(rule, arrows, value):
    need_arrows(rule, arrows)
    return has_layers(rule, arrows, value)


def weight_of(rule, layer, row, grouping):
    need_rule(rule)
    if not is_layer_of(rule.kinds(), layer):
        raise InvalidNumbers(layer)
    need_grouped_row(rule.kinds(), row, grouping)
    return weight_by(layer, kinds_of_spans(rule.kinds(), row), grouping)


def weight_by(layer, spans, grouping):
    weight = 0
    for (first, end), middle in zip(grouping, splits_at(grouping)):
        alone, by_first, by_second = layer[(spans[(first, middle)], spans[(middle, end)])]
        weight += alone + by_first * (middle - first) + by_second * (end - middle)
    return weight


# What follows solves inequalities in whole numbers: `rows` hold numbers over one
# denominator, `under`. Each row tells what a variable that may be above nought
# still has, and how much one of each variable at nought would take of it; the
# last row tells likewise what the goal would lose. A variable is a count: those of
# the columns at the start come first, then those of the rows. Of several
# variables the first one is always taken, so that no rows come twice.


def pivoted(rows, under, at, column):
    """The rows behind an exchange of the variables of a row and a column."""
    pivot, across = rows[at][column], rows[at]
    made = []
    for place, row in enumerate(rows):
        if place == at:
            new = list(row)
            new[column] = under
        else:
            new = [(number * pivot - row[column] * other) // under for number, other in zip(row, across)]
            new[column] = -row[column]
        made.append(new)
    return made


def entering(goal, columns):
    """The column of the first variable that would help the goal, None if none would."""
    helping = [(name, column) for column, name in enumerate(columns) if goal[column] < 0]
    return min(helping)[1] if helping else None


def leaving(rows, held, column):
    """The row of the variable that comes to nought first."""
    bars = [at for at in range(len(held)) if rows[at][column] > 0]
    found = bars[0]
    for at in bars[1:]:
        here, best = rows[at][-1] * rows[found][column], rows[found][-1] * rows[at][column]
        if (here, held[at]) < (best, held[found]):
            found = at
    return found


def greatest(rows):
    """What brings the goal of the rows as far as can be.

    Returns the numbers of the variables, and the prices of those at nought,
    both over the same denominator; what is not told is nought.
    """
    many, under = len(rows[0]) - 1, 1
    columns, held = list(range(many)), list(range(many, many + len(rows) - 1))
    column = entering(rows[-1], columns)
    while column is not None:
        at = leaving(rows, held, column)
        rows, under = pivoted(rows, under, at, column), rows[at][column]
        columns[column], held[at] = held[at], columns[column]
        column = entering(rows[-1], columns)
    worth = {name: row[-1] for name, row in zip(held, rows)}
    price = {name: rows[-1][column] for column, name in enumerate(columns)}
    return worth, price


def shared_divisor(numbers):
    shared = 0
    for number in numbers:
        shared = gcd(shared, number)
    return shared


def unit_layers(kinds):
    """The layers of one 1 and else noughts, of which all others are sums of multiples."""
    pairs, units = all_pairs(kinds), []
    for some in pairs:
        for unit in ((1, 0, 0), (0, 1, 0), (0, 0, 1)):
            units.append({pair: unit if pair == some else (0, 0, 0) for pair in pairs})
    return units


def falling_rows(table, arrows, triples, units):
    """The rows of layers that never rise at triples, and fall at as many as can be.

    The columns: one for each unit layer, one that is taken off all of these (for
    numbers below nought), one for each triple, how far it falls, at most by 1.
    """
    rows, many = [], len(triples)
    for place, triple in enumerate(triples):
        changes = [change_of(table, triple, arrows[triple], unit) for unit in units]
        mark = [int(other == place) for other in range(many)]
        for part in (1, 2, 3):
            steps = [change[part] for change in changes]
            rows.append(steps + [-sum(steps)] + [0] * many + [0])
        sums = [sum(change) for change in changes]
        rows.append(sums + [-sum(sums)] + mark + [0])
        rows.append([0] * (len(units) + 1) + mark + [1])
    return rows + [[0] * (len(units) + 1) + [-1] * many + [0]]


def next_layer(rule, arrows, triples):
    """A layer that never rises at triples and falls at as many as can be, and a balanced lot if at none."""
    kinds = rule.kinds()
    units = unit_layers(kinds)
    rows = falling_rows(kinds.table(), arrows, triples, units)
    many, columns = len(units), len(rows[0]) - 1
    worth, price = greatest(rows)
    if any([worth.get(name, 0) > 0 for name in range(many + 1, columns)]):
        return layer_told(kinds, [worth.get(name, 0) - worth.get(many, 0) for name in range(many)]), None
    return None, lot_told(triples, [price.get(columns + place, 0) for place in range(len(rows) - 1)])


def layer_told(kinds, numbers):
    shared = shared_divisor(numbers)
    small = [number // shared for number in numbers]
    return {pair: tuple(small[3 * place:3 * place + 3]) for place, pair in enumerate(all_pairs(kinds))}


def lot_told(triples, prices):
    """The lot of the prices of the rows: those of a triple's first three are things beyond the deeds."""
    shared, lot = shared_divisor(prices), {}
    for place, triple in enumerate(triples):
        more = [price // shared for price in prices[5 * place:5 * place + 4]]
        lot[triple] = (more[3], more[3] + more[0], more[3] + more[1], more[3] + more[2])
    return lot


def layers_and_rest(rule, arrows):
    """Layers that fall at all triples at which such can, and a balanced lot of the others, None if there are none."""
    layers, left, table = [], rule.triples(), rule.kinds().table()
    while left:
        layer, lot = next_layer(rule, arrows, left)
        if layer is None:
            return layers, lot
        layers.append(layer)
        left = [triple for triple in left if not falls(change_of(table, triple, arrows[triple], layer))]
    return layers, None


def layers_of(rule, arrows):
    need_arrows(rule, arrows)
    layers, lot = layers_and_rest(rule, arrows)
    return layers if lot is None else None


def balanced_lot(rule, arrows):
    need_arrows(rule, arrows)
    return layers_and_rest(rule, arrows)[1]


def is_share(value):
    """Whether any object is a tuple (m, x, y, z) as a lot has them."""
    return is_whole_tuple(value, 4) and value[0] >= 1 and min(value) == value[0]


def is_balanced_lot(rule, arrows, value):
    need_arrows(rule, arrows)
    if not isinstance(value, dict) or not value or not all([triple in arrows for triple in value]):
        return False
    if not all([is_share(share) for share in value.values()]):
        return False
    return all([lot_change(rule, arrows, value, unit) == 0 for unit in unit_layers(rule.kinds())])


def lot_change(rule, arrows, lot, layer):
    """By how much all deeds of a lot together change what their blocks weigh."""
    table, total = rule.kinds().table(), 0
    for triple in lot:
        change = change_of(table, triple, arrows[triple], layer)
        total += sum([number * many for number, many in zip(change, lot[triple])])
    return total


def round_of(rule, arrows, size):
    need_arrows(rule, arrows)
    if not is_count(size):
        raise InvalidCount(size)
    kinds = rule.kinds()
    rows = [[name] for name in kinds.kinds()]
    for many in range(2, size + 1):
        rows = [row + [name] for row in rows for name in kinds.kinds()]
        deeds = all_deeds(many)
        for row in rows:
            found = round_in(arrows, kinds_of_spans(kinds, row), deeds)
            if found is not None:
                return (row,) + found
    return None


def all_deeds(size):
    """For each deed that fits a grouping of so many things the grouping, as a tuple, the deed, and what it makes."""
    return [(tuple(grouping), deed, tuple(deed_made(grouping, deed)))
            for grouping in groupings(size) for deed in deeds_at(grouping)]


def round_in(arrows, spans, deeds):
    """A grouping and the deeds of a round of one row, None if it has none."""
    left, held = [], [told for told in deeds if arrows.get(triple_at(spans, told[1])) == told[1][0]]
    onward = {}
    while len(held) != len(left):
        # What leads where nothing leads on is in no round.
        left, onward = held, {here: (deed, there) for here, deed, there in held}
        held = [told for told in left if told[2] in onward]
    if not held:
        return None
    here, walked, passed = held[0][0], [], {}
    while here not in passed:
        passed[here] = len(walked)
        deed, here = onward[here]
        walked.append(deed)
    return (list(here), walked[passed[here]:])


def is_round(rule, arrows, value):
    need_arrows(rule, arrows)
    if not isinstance(value, tuple) or len(value) != 3:
        return False
    row, grouping, deeds = value
    if not is_row_of(rule.kinds(), row) or not is_grouping_of(len(row), grouping):
        return False
    if walk_end(grouping, deeds) != grouping or not deeds:
        return False
    spans = kinds_of_spans(rule.kinds(), row)
    return all([arrows.get(triple_at(spans, deed)) == deed[0] for deed in deeds])
