"""Kinds: words, and tables that tell which kind two of them make together."""

from kindshifts.errors import InvalidKind, InvalidKinds, InvalidMap, InvalidRow, InvalidTable

LETTERS = "abcdefghijklmnopqrstuvwxyz"


def is_kind(value):
    return isinstance(value, str) and 1 <= len(value) <= 8 and all([sign in LETTERS for sign in value])


def is_pair(value):
    return isinstance(value, tuple) and len(value) == 2 and is_kind(value[0]) and is_kind(value[1])


def is_plain_table(value):
    if not isinstance(value, dict) or not value or not all([is_pair(key) for key in value]):
        return False
    names = names_of(value)
    if len(value) != len(names) ** 2:
        return False
    return all([made in names for made in value.values()])


def is_table(value):
    return is_plain_table(value) and parting_three(value) is None


def names_of(table):
    return sorted(set([name for pair in table for name in pair]))


def parting_three(table):
    """The first three kinds of a plain table that make two unlike ones, None if there are none."""
    names = names_of(table)
    for a in names:
        for b in names:
            for c in names:
                if table[(table[(a, b)], c)] != table[(a, table[(b, c)])]:
                    return (a, b, c)
    return None


class Kinds:
    def __init__(self, table):
        if not is_table(table):
            raise InvalidTable(table)
        self._table = {pair: table[pair] for pair in sorted(table)}
        self._kinds = names_of(table)

    def __eq__(self, other):
        return isinstance(other, Kinds) and self._table == other._table

    def table(self):
        return {pair: self._table[pair] for pair in self._table}

    def kinds(self):
        return list(self._kinds)

    def put(self, first, second):
        need_kind(self, first)
        need_kind(self, second)
        return self._table[(first, second)]


def need_kinds(value):
    if not isinstance(value, Kinds):
        raise InvalidKinds(value)


def need_kind(kinds, value):
    if not has_kinds(kinds, [value]):
        raise InvalidKind(value)


def has_kinds(kinds, values):
    """Whether any objects are all kinds of a Kinds."""
    names = kinds.kinds()
    return all([value in names for value in values])


def is_row_of(kinds, value):
    return isinstance(value, list) and len(value) > 0 and has_kinds(kinds, value)


def fold(table, things):
    """The kind of some things, one at least, put together."""
    made = things[0]
    for thing in things[1:]:
        made = table[(made, thing)]
    return made


def unlike_three(table):
    if not is_plain_table(table):
        raise InvalidTable(table)
    return parting_three(table)


def put_all(kinds, row):
    need_kinds(kinds)
    if not is_row_of(kinds, row):
        raise InvalidRow(row)
    return fold(kinds.table(), row)


def are_unlike_kinds(values):
    return all([is_kind(value) for value in values]) and len(set(values)) == len(values)


def need_names(names):
    if not isinstance(names, list) or not names or not are_unlike_kinds(names):
        raise InvalidKinds(names)


def first_kinds(names):
    need_names(names)
    return Kinds({(a, b): a for a in names for b in names})


def last_kinds(names):
    need_names(names)
    return Kinds({(a, b): b for a in names for b in names})


def greatest_kinds(names):
    need_names(names)
    return Kinds({(a, b): names[max(names.index(a), names.index(b))] for a in names for b in names})


def ring_kinds(names):
    need_names(names)
    many = len(names)
    return Kinds({(a, b): names[(names.index(a) + names.index(b)) % many] for a in names for b in names})


def opposite(kinds):
    need_kinds(kinds)
    table = kinds.table()
    return Kinds({(a, b): table[(b, a)] for (a, b) in table})


def renamed(kinds, sent):
    need_kinds(kinds)
    if not is_from(kinds, sent) or not are_unlike_kinds(list(sent.values())):
        raise InvalidMap(sent)
    table = kinds.table()
    return Kinds({(sent[a], sent[b]): sent[table[(a, b)]] for (a, b) in table})


def is_from(kinds, value):
    """Whether any object is a dictionary from just the kinds, to whatever."""
    return isinstance(value, dict) and len(value) == len(kinds.kinds()) and has_kinds(kinds, list(value))


def is_closed(kinds, value):
    if not is_row_of(kinds, value):
        return False
    table = kinds.table()
    return are_unlike_kinds(value) and all([table[(a, b)] in value for a in value for b in value])


def closed_lists(kinds):
    need_kinds(kinds)
    lists = [[]]
    for name in kinds.kinds():
        lists = lists + [names + [name] for names in lists]
    return sorted([names for names in lists if is_closed(kinds, names)])


def closed_by(kinds, names):
    need_kinds(kinds)
    if not is_row_of(kinds, names):
        raise InvalidKinds(names)
    table = kinds.table()
    held = []
    grown = sorted(set(names))
    while grown != held:
        held = grown
        grown = sorted(set(held + [table[(a, b)] for a in held for b in held]))
    return held


def cut_to(kinds, names):
    need_kinds(kinds)
    if not is_closed(kinds, names):
        raise InvalidKinds(names)
    table = kinds.table()
    return Kinds({(a, b): table[(a, b)] for a in names for b in names})


def is_map(one, other, value):
    need_kinds(one)
    need_kinds(other)
    if not is_from(one, value) or not has_kinds(other, list(value.values())):
        return False
    return keeps_table(one.table(), other.table(), value)


def keeps_table(table, onto, sent):
    """Whether what two kinds make goes to what the kinds that they go to make."""
    return all([onto[(sent[a], sent[b])] == sent[table[(a, b)]] for (a, b) in table])


def all_maps(one, other):
    need_kinds(one)
    need_kinds(other)
    table, onto = one.table(), other.table()
    lists = [[]]
    for _ in one.kinds():
        lists = [goals + [goal] for goals in lists for goal in other.kinds()]
    tried = [dict(zip(one.kinds(), goals)) for goals in lists]
    return [sent for sent in tried if keeps_table(table, onto, sent)]


def need_map(one, other, sent):
    if not is_map(one, other, sent):
        raise InvalidMap(sent)


def image_of(one, other, sent):
    need_map(one, other, sent)
    return sorted(set(list(sent.values())))


def alike_map(one, other):
    for sent in all_maps(one, other):
        # Unlike goals that are all kinds of the other one are just its kinds.
        if sorted(sent.values()) == other.kinds():
            return sent
    return None


def neutral(kinds):
    need_kinds(kinds)
    table, names = kinds.table(), kinds.kinds()
    for some in names:
        if all([table[(some, name)] == name and table[(name, some)] == name for name in names]):
            return some
    return None


def is_even_handed(kinds):
    need_kinds(kinds)
    table = kinds.table()
    return all([table[(a, b)] == table[(b, a)] for (a, b) in table])
