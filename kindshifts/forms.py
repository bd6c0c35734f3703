"""What counts, blocks, groupings and deeds look like, whatever the kinds are.

Nothing here knows kinds or raises an error: the modules of the interface judge
their arguments by these functions and raise their own errors.
"""

WORDS = ("right", "left")


def is_whole(value):
    # True and False are integers for Python, but no whole numbers here.
    return isinstance(value, int) and not isinstance(value, bool)


def is_count(value):
    return is_whole(value) and value >= 0


def is_ascending(values):
    """Whether values that can be compared rise, without doubles."""
    return all([one < other for one, other in zip(values, values[1:])])


def is_span(value):
    """Whether any object is a tuple of two rising counts."""
    if not isinstance(value, tuple) or len(value) != 2:
        return False
    return is_count(value[0]) and is_count(value[1]) and value[0] < value[1]


def is_block_of(size, value):
    return is_span(value) and value[1] - value[0] > 1 and value[1] <= size


def overlap(one, other):
    """Whether the one of two blocks begins first, and they share but part of their things."""
    return one[0] < other[0] < one[1] < other[1]


def is_grouping_of(size, value):
    if not isinstance(value, list) or len(value) != size - 1:
        return False
    if not all([is_block_of(size, block) for block in value]) or not is_ascending(value):
        return False
    return not any([overlap(one, other) for one in value for other in value])


def holds_span(grouping, span):
    """Whether a span is one thing, or a block of the grouping."""
    return span[1] - span[0] == 1 or span in grouping


def split_of(grouping, span):
    """The place where the first part of a block ends.

    The blocks that begin where it does lie within one another, so the longest
    of the shorter ones is its first part.
    """
    first, end = span
    return max([first + 1] + [behind for (start, behind) in grouping if start == first and behind < end])


def shifted(grouping, steps):
    return [(first + steps, end + steps) for (first, end) in grouping]


def blocks_within(grouping, span):
    """The blocks that lie in a span, the span itself too."""
    return [(first, end) for (first, end) in grouping if span[0] <= first and end <= span[1]]


def holder_of(grouping, block):
    """The block that has this one as a part, None for that of all things."""
    around = [other for other in grouping if other != block and other[0] <= block[0] and block[1] <= other[1]]
    return min(around, key=lambda held: held[1] - held[0], default=None)


def is_deed(value):
    """Whether any object is a deed by its form."""
    if not isinstance(value, tuple) or len(value) != 5 or value[0] not in WORDS:
        return False
    return all([is_count(place) for place in value[1:]]) and is_ascending(value[1:])


def is_deeds(value):
    return isinstance(value, list) and all([is_deed(deed) for deed in value])


def parts_of_deed(deed):
    """The three things, or blocks, A, B and C of a deed."""
    _, first, second, third, end = deed
    return [(first, second), (second, third), (third, end)]


def block_out(deed):
    """The block that a deed takes out."""
    return (deed[1], deed[3]) if deed[0] == "right" else (deed[2], deed[4])


def turned(deed):
    """The deed that takes a deed back."""
    return ("left" if deed[0] == "right" else "right",) + deed[1:]


def deed_fits(grouping, deed):
    spans = parts_of_deed(deed) + [block_out(deed), (deed[1], deed[4])]
    return all([holds_span(grouping, span) for span in spans])


def deed_made(grouping, deed):
    """The grouping behind a deed that fits."""
    gone = block_out(deed)
    return sorted([block for block in grouping if block != gone] + [block_out(turned(deed))])


def splits_at(grouping):
    """The places where the first parts of the blocks end, in the order of the blocks."""
    ahead = [(None, None)] + grouping
    return [last[1] if last[0] == first else first + 1 for last, (first, _) in zip(ahead, grouping)]


def deeds_at(grouping):
    """The ascending list of the deeds that fit a grouping.

    A block is a first part just where the one behind it, in ascending order,
    begins with the same thing: that one holds it. Any other, but that of all
    things, is the second part of the last one ahead of it that ends where it does.
    """
    deeds, begun = [], {}
    for (first, end), split, behind in zip(grouping, splits_at(grouping), grouping[1:] + [(None, None)]):
        if behind[0] == first:
            deeds.append(("right", first, split, end, behind[1]))
        elif end in begun:
            deeds.append(("left", begun[end], first, split, end))
        begun[end] = first
    return sorted(deeds)


def walk_end(grouping, value):
    """The grouping behind a list of deeds, None unless each fits what those ahead made."""
    if not is_deeds(value):
        return None
    there = grouping
    for deed in value:
        if not deed_fits(there, deed):
            return None
        there = deed_made(there, deed)
    return there
