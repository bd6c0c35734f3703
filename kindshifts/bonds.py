"""Bonds: what is left of the blocks of a grouping of whole numbers once noughts are stripped off."""

from kindshifts.errors import InvalidBlock, InvalidBonds, InvalidCount
from kindshifts.forms import blocks_within, is_ascending, is_block_of, is_count, is_span, overlap, splits_at
from kindshifts.groupings import need_grouping
from kindshifts.noughts import heads_of, need_number_row


def is_nought(heads, span):
    return heads[span[0]] == heads[span[1]]


def bonds_of(row, grouping):
    need_number_row(row)
    need_grouping(len(row), grouping)
    heads, found = heads_of(row), []
    stripped = {(place, place + 1): (place, place + 1) for place in range(len(row))}
    # Shorter blocks first, so that parts stand ahead of what they are parts of.
    for length, first, middle in sorted([(end - first, first, middle) for (first, end), middle
                                         in zip(grouping, splits_at(grouping))]):
        left, right = (first, middle), (middle, first + length)
        block = (first, first + length)
        if is_nought(heads, left):
            stripped[block] = stripped[right]
        elif is_nought(heads, right):
            stripped[block] = stripped[left]
        else:
            stripped[block] = (stripped[left][0], stripped[right][1])
            found.append(stripped[block])
    return sorted(found)


def pieces_by(span, held):
    """The greatest of some stretches that lie in a span, of which no two overlap, and the things between them."""
    pieces, place = [], span[0]
    while place < span[1]:
        behind = max([place + 1] + [end for first, end in held if first == place])
        pieces.append((place, behind))
        place = behind
    return pieces


def inner_ones(stretches, span):
    """Those of some stretches that lie in a span, other than the span itself."""
    return [some for some in blocks_within(stretches, span) if some != span]


def are_bond_pieces(heads, pieces):
    """Whether just the first and the last piece are not nought."""
    told = [is_nought(heads, piece) for piece in pieces]
    return told == [False] + [True] * (len(told) - 2) + [False]


def is_bond_list(heads, value):
    size = len(heads) - 1
    if not isinstance(value, list) or not all([is_block_of(size, some) for some in value]):
        return False
    if not is_ascending(value) or any([overlap(one, other) for one in value for other in value]):
        return False
    if not all([are_bond_pieces(heads, pieces_by(some, inner_ones(value, some))) for some in value]):
        return False
    left = [piece for piece in pieces_by((0, size), value) if not is_nought(heads, piece)]
    return len(left) == (0 if is_nought(heads, (0, size)) else 1)


def are_bonds(row, value):
    need_number_row(row)
    return is_bond_list(heads_of(row), value)


def need_bonds(row, bonds):
    if not are_bonds(row, bonds):
        raise InvalidBonds(bonds)


def pieces_of(row, bonds, stretch):
    need_bonds(row, bonds)
    # (False, 2) is (0, 2) for Python, so the form is asked first.
    if not is_span(stretch) or stretch not in bonds:
        raise InvalidBlock(stretch)
    return pieces_by(stretch, inner_ones(bonds, stretch))


def grouped_by(row, bonds):
    need_bonds(row, bonds)
    parted = [pieces_by((0, len(row)), bonds)] + [pieces_by(some, inner_ones(bonds, some)) for some in bonds]
    # A first piece takes up noughts alone, so each tower makes at most its last block a bond.
    return sorted([(pieces[0][0], end) for pieces in parted for _, end in pieces[1:]])


# Lists of bonds are counted by the pieces of their stretches, without being made.
# Some stretches may be told that have to be in the lists: just then they are, if
# no piece of what holds them, nor of the row, ends inside of one of them. Others
# may be told that have not to be in the lists.


def all_stretches(size):
    """The ascending list of the stretches of two things or more."""
    return [(first, end) for first in range(size) for end in range(first + 2, size + 1)]


def places_between(span, held):
    """The places of a span, both its ends too, that do not part one of some stretches."""
    first, end = span
    return [place for place in range(first, end + 1) if not any([start < place < last for start, last in held])]


def many_pieced(heads, many, places):
    """How many lists have a bond from the first to the last of some places, at which alone its pieces end."""
    first, end, reached = places[0], places[-1], {}
    for behind in places[1:-1]:
        reached[behind] = 0 if heads[first] == heads[behind] else many[(first, behind)]
        for place in places[1:places.index(behind)]:
            if heads[place] == heads[behind]:
                reached[behind] += reached[place] * many[(place, behind)]
    return sum([reached[place] * many[(place, end)] for place in reached if heads[place] != heads[end]])


def many_in_row(heads, many, places):
    """How many lists a row has whose pieces end at some places alone."""
    # For each place the numbers of lists ahead of it without a piece that is not nought, and with one.
    reached = {0: (1, 0)}
    for behind in places[1:]:
        none, one = 0, 0
        for place in reached:
            times = many[(place, behind)]
            if heads[place] == heads[behind]:
                none += reached[place][0] * times
                one += reached[place][1] * times
            else:
                one += reached[place][0] * times
        reached[behind] = (none, one)
    none, one = reached[places[-1]]
    return none if heads[0] == heads[-1] else one


def many_lists(heads, held, barred):
    """How many lists of bonds have all stretches that are held, and none that is barred."""
    size = len(heads) - 1
    many = {(place, place + 1): 1 for place in range(size)}
    for _, some in sorted([(end - first, (first, end)) for first, end in all_stretches(size)]):
        many[some] = 0
        if some not in barred:
            many[some] = many_pieced(heads, many, places_between(some, inner_ones(held, some)))
    return many_in_row(heads, many, places_between((0, size), held))


def many_bonds(row):
    need_number_row(row)
    return many_lists(heads_of(row), [], [])


# All lists have as many bonds, those that are nought counted twice, so none begins
# with all of another one: of two lists the one that has the first stretch that
# just one of them has stands ahead.


def bonds_at(row, number):
    need_number_row(row)
    if not is_count(number) or number >= many_bonds(row):
        raise InvalidCount(number)
    heads, held, barred = heads_of(row), [], []
    for some in all_stretches(len(row)):
        many = many_lists(heads, held + [some], barred)
        if number < many:
            held.append(some)
        else:
            number -= many
            barred.append(some)
    return held


def bonds_place(row, bonds):
    need_bonds(row, bonds)
    heads, held, barred, ahead = heads_of(row), [], [], 0
    for some in all_stretches(len(row)):
        if some in bonds:
            held.append(some)
        else:
            ahead += many_lists(heads, held + [some], barred)
            barred.append(some)
    return ahead


def always_bonds(row):
    need_number_row(row)
    heads = heads_of(row)
    return [some for some in all_stretches(len(row)) if many_lists(heads, [], [some]) == 0]


def ever_bonds(row):
    need_number_row(row)
    heads = heads_of(row)
    return [some for some in all_stretches(len(row)) if many_lists(heads, [some], []) > 0]
