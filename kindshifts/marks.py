"""What shifts keep: sorts of kinds, and weights of kinds and of pairs whose sums stay the same."""

from math import lcm

from kindshifts.ending import all_pairs, shared_divisor
from kindshifts.errors import InvalidNumbers
from kindshifts.forms import is_whole, splits_at
from kindshifts.groupings import kinds_of_spans
from kindshifts.kinds import is_from
from kindshifts.rules import need_grouped_row, need_rule, need_two_groupings


def sorts(rule):
    need_rule(rule)
    names, table = rule.kinds().kinds(), rule.kinds().table()
    # Each kind has the least kind of its sort as its mark.
    marks = {name: name for name in names}
    for a, b, c in rule.triples():
        one, other = marks[table[(a, b)]], marks[table[(b, c)]]
        low, high = min(one, other), max(one, other)
        marks = {name: low if marks[name] == high else marks[name] for name in names}
    return [[name for name in names if marks[name] == mark] for mark in names if marks[mark] == mark]


def block_marks(rule, row, grouping):
    need_rule(rule)
    need_grouped_row(rule.kinds(), row, grouping)
    spans = kinds_of_spans(rule.kinds(), row)
    made = [spans[block] for block in grouping]
    return [len([name for name in made if name in sort]) for sort in sorts(rule)]


def need_weights(rule, weights):
    need_rule(rule)
    if not is_from(rule.kinds(), weights) or not all([is_whole(number) for number in weights.values()]):
        raise InvalidNumbers(weights)


def is_changed(rule, weights, triple):
    """Whether both groupings of three things have unlike sums: the blocks of all three are alike."""
    a, b, c = triple
    table = rule.kinds().table()
    return weights[table[(a, b)]] != weights[table[(b, c)]]


def are_kept(rule, weights):
    return changing_row(rule, weights) is None


def changing_row(rule, weights):
    need_weights(rule, weights)
    for triple in rule.triples():
        if is_changed(rule, weights, triple):
            return list(triple)
    return None


def is_changing_row(rule, weights, value):
    need_weights(rule, weights)
    if not isinstance(value, list) or tuple(value) not in rule.triples():
        return False
    return is_changed(rule, weights, value)


def are_pair_weights(rule, value):
    pairs = all_pairs(rule.kinds())
    if not isinstance(value, dict) or len(value) != len(pairs):
        return False
    return all([pair in value and is_whole(value[pair]) for pair in pairs])


def wish_of_triple(table, triple):
    """The pairs of the two blocks that a deed to the right takes out, and of those that it puts in."""
    a, b, c = triple
    return [(a, b), (table[(a, b)], c)], [(b, c), (a, table[(b, c)])]


def sum_of(weights, pairs):
    return sum([weights[pair] for pair in pairs])


def keeps_pairs(rule, weights):
    table = rule.kinds().table()
    found = [wish_of_triple(table, triple) for triple in rule.triples()]
    return all([sum_of(weights, out) == sum_of(weights, put) for out, put in found])


def are_kept_pairs(rule, weights):
    need_rule(rule)
    if not are_pair_weights(rule, weights):
        raise InvalidNumbers(weights)
    return keeps_pairs(rule, weights)


# What follows solves the wishes of all triples in whole numbers: a wish is a row
# of numbers, one for each pair, whose products with kept weights sum to 0.


def wish_rows(rule):
    pairs, table, rows = all_pairs(rule.kinds()), rule.kinds().table(), []
    for triple in rule.triples():
        out, put = wish_of_triple(table, triple)
        rows.append([out.count(pair) - put.count(pair) for pair in pairs])
    return rows


def rid_of(row, other, column):
    """A multiple of a row with a nought in a column, by taking multiples of another row away."""
    mixed = [number * other[column] - row[column] * less for number, less in zip(row, other)]
    shared = shared_divisor(mixed)
    return [number // shared for number in mixed] if shared else mixed


def independent(rows):
    """Rows, by the columns that none of the others needs, from which just all the rows follow."""
    held = {}
    for row in rows:
        for column in held:
            row = rid_of(row, held[column], column)
        filled = [column for column, number in enumerate(row) if number]
        if filled:
            held = {column: rid_of(held[column], row, filled[0]) for column in held}
            held[filled[0]] = row
    return held


def kept_rows(rule):
    """Rows of numbers, one for each pair, of kept weights: all others are sums of multiples of them."""
    held, found = independent(wish_rows(rule)), []
    for free in range(len(all_pairs(rule.kinds()))):
        if free not in held:
            under = 1
            for column in held:
                under = lcm(under, held[column][column])
            row = [under if column == free else 0 for column in range(len(all_pairs(rule.kinds())))]
            for column in held:
                row[column] = -held[column][free] * under // held[column][column]
            found.append(row)
    return found


def kept_count(rule):
    need_rule(rule)
    return len(kept_rows(rule))


def pairs_of(rule, row, grouping):
    """The pairs of the blocks of a grouping."""
    spans = kinds_of_spans(rule.kinds(), row)
    return [(spans[(first, middle)], spans[(middle, end)])
            for (first, end), middle in zip(grouping, splits_at(grouping))]


def parting_weights(rule, row, one, other):
    need_two_groupings(rule, row, one, other)
    ours, theirs = pairs_of(rule, row, one), pairs_of(rule, row, other)
    for numbers in kept_rows(rule):
        weights = dict(zip(all_pairs(rule.kinds()), numbers))
        if sum_of(weights, ours) != sum_of(weights, theirs):
            return weights
    return None


def are_parting_weights(rule, row, one, other, value):
    need_two_groupings(rule, row, one, other)
    if not are_pair_weights(rule, value) or not keeps_pairs(rule, value):
        return False
    return sum_of(value, pairs_of(rule, row, one)) != sum_of(value, pairs_of(rule, row, other))


def have_like_weights(rule, row, one, other):
    return parting_weights(rule, row, one, other) is None
