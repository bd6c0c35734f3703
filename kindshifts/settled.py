"""Whether a comb leads each class of EVERY row to one last grouping: four kinds at a time."""

from kindshifts.combing import arrows_to, deeds_along, need_comb, spans_of
from kindshifts.errors import InvalidCount, Unsettled
from kindshifts.forms import is_count, is_grouping_of
from kindshifts.joining import distances, shortest_chain
from kindshifts.kinds import is_row_of
from kindshifts.rules import EDGES, all_fours, edges_of, is_chain, is_four_of, need_four, need_rule

# The groupings of four things that are the corners 0 to 4.
CORNERS = (((0, 2), (0, 3), (0, 4)), ((0, 3), (0, 4), (1, 3)), ((0, 4), (1, 3), (1, 4)), ((0, 4), (1, 4), (2, 4)),
           ((0, 2), (0, 4), (2, 4)))


def steps_along(arrows, table, four):
    """The tuples of two corners from the first of which a deed along the arrows leads to the second."""
    steps = []
    for (one, other), triple in zip(EDGES, edges_of(table, four)):
        word = arrows.get(triple)
        if word is not None:
            steps.append((one, other) if word == "right" else (other, one))
    return steps


def next_corners(steps, corner):
    """The corners to which one step leads."""
    return [there for here, there in steps if here == corner]


def lasts_behind(steps, corner):
    """The ascending list of the last corners to which steps, or none, lead."""
    reached = distances(corner, lambda here: next_corners(steps, here))
    return sorted([there for there in reached if not next_corners(steps, there)])


def parting_corners(steps):
    return [corner for corner in range(5) if len(next_corners(steps, corner)) > 1]


def unsettled_corners(steps):
    return [corner for corner in parting_corners(steps) if len(lasts_behind(steps, corner)) > 1]


def unsettled_ones(kinds, arrows):
    """The ascending list of the tuples of a four and a corner from which combings lead to two last ones."""
    table, found = kinds.table(), []
    for four in all_fours(kinds):
        for corner in unsettled_corners(steps_along(arrows, table, four)):
            found.append((four, corner))
    return found


def settles(comb):
    return not unsettled_ones(comb.rule().kinds(), comb.arrows())


def need_settled(comb):
    """Asks for a settled one of a comb, behind all other errors of a call."""
    if not settles(comb):
        raise Unsettled(comb)


def is_settled(comb):
    need_comb(comb)
    return settles(comb)


def settled_words(rule):
    need_rule(rule)
    return [word for word in ("left", "right") if not unsettled_ones(rule.kinds(), arrows_to(rule, word))]


def five_shifts(rule, four):
    need_rule(rule)
    need_four(rule.kinds(), four)
    return sorted(steps_along(arrows_to(rule, "right"), rule.kinds().table(), four))


def steps_of_four(comb, four):
    need_comb(comb)
    need_four(comb.rule().kinds(), four)
    return steps_along(comb.arrows(), comb.rule().kinds().table(), four)


def five_lasts(comb, four):
    steps = steps_of_four(comb, four)
    return [lasts_behind(steps, corner) for corner in range(5)]


def unsettled_four(comb):
    need_comb(comb)
    found = unsettled_ones(comb.rule().kinds(), comb.arrows())
    return found[0] if found else None


def is_unsettled_four(comb, value):
    need_comb(comb)
    if not isinstance(value, tuple) or len(value) != 2:
        return False
    four, corner = value
    if not is_four_of(comb.rule().kinds(), four) or not is_count(corner) or corner > 4:
        return False
    return len(five_lasts(comb, four)[corner]) > 1


def unsettled_fours(comb):
    need_comb(comb)
    fours = [four for four, _ in unsettled_ones(comb.rule().kinds(), comb.arrows())]
    return [four for place, four in enumerate(fours) if four not in fours[:place]]


def unsettled_row(comb):
    found = unsettled_four(comb)
    if found is None:
        return None
    row, corner = found
    one, other = [list(CORNERS[last]) for last in five_lasts(comb, row)[corner]]
    return (row, one, other, shortest_chain(comb.rule(), row, one, other))


def is_unsettled_row(comb, value):
    need_comb(comb)
    if not isinstance(value, tuple) or len(value) != 4:
        return False
    row, one, other, chain = value
    if not is_row_of(comb.rule().kinds(), row):
        return False
    if not is_grouping_of(len(row), one) or not is_grouping_of(len(row), other) or one == other:
        return False
    arrows, spans = comb.arrows(), spans_of(comb, row)
    if deeds_along(arrows, spans, one) or deeds_along(arrows, spans, other):
        return False
    return is_chain(comb.rule(), row, one, other, chain)


def parting_fours(comb):
    need_comb(comb)
    arrows, table = comb.arrows(), comb.rule().kinds().table()
    return [four for four in all_fours(comb.rule().kinds()) if parting_corners(steps_along(arrows, table, four))]


def meeting_corner(comb, four, corner):
    steps = steps_of_four(comb, four)
    if not is_count(corner) or corner > 4:
        raise InvalidCount(corner)
    ways = next_corners(steps, corner)
    if len(ways) < 2:
        return None
    one, other = [lasts_behind(steps, there) for there in ways]
    shared = [last for last in one if last in other]
    return shared[0] if shared else None
