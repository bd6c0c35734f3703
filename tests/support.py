"""What the tests share: any objects, calls with wrong arguments, and plain trials."""

from itertools import combinations, product

from kindshifts.errors import InvalidKind, NothingToUndo
from kindshifts.kinds import Kinds, first_kinds, greatest_kinds, ring_kinds
from kindshifts.rules import Rule

EVEN_TABLE = {("e", "e"): "e", ("e", "o"): "o", ("o", "e"): "o", ("o", "o"): "e"}
ODD_TABLE = {("a", "a"): "b", ("a", "b"): "a", ("b", "a"): "b", ("b", "b"): "a"}


def even():
    return Kinds(dict(EVEN_TABLE))


def every_triple(kinds):
    names = kinds.kinds()
    return sorted(product(names, names, names))


def seven():
    return Rule(even(), [triple for triple in every_triple(even()) if triple != ("o", "o", "o")])


def some_kinds():
    """Kinds of one to four words, of several makes."""
    lesser = {("a", "a"): "a", ("a", "b"): "a", ("b", "a"): "a", ("b", "b"): "b"}
    nil = {(x, y): "n" for x in "nxy" for y in "nxy"}
    wide = {("l", "l"): "l", ("l", "r"): "z", ("r", "l"): "z", ("r", "r"): "r"}
    wide.update({("z", x): "z" for x in "lrz"})
    wide.update({(x, "z"): "z" for x in "lrz"})
    return [even(), first_kinds(["z"]), Kinds(lesser), first_kinds(["a", "b", "c"]), ring_kinds(["x", "aa", "m", "b"]),
            greatest_kinds(["c", "a", "b"]), Kinds(nil), Kinds(wide)]


def deep(depth):
    """A list nested so deep."""
    value = []
    for _ in range(depth):
        value = [value]
    return value


def pool():
    """Any objects, of which none is what any parameter wants, but those of `allowed`."""
    return [None, True, False, 0, 1, -1, 10 ** 40, "", "A", "a b", "abcdefghi", "e1", "right", "left", chr(10),
            [], (), {}, [None], [[]], [()], [{}], ((),), ("e",), (None, None), (0, 2), [0, 2], (True, 2), (False, 2),
            (0, True), ("0", "2"), [(0, 2), (0, 2)], [(True, 3), (0, 2)], {"e": "e"}, {"e": []}, {True: 1, 0: False},
            {None: None}, {("e", "e"): "e", 5: "e"}, {(): ()}, {(("e", "e"), "e"): "e"}, {"a": {"b": [1, ("c",)]}},
            deep(30), (deep(3), {"k": deep(2)}), ["e", ["o"]], ["e", None], ["A"], ("right", 0, 1, 2), [("e", "o")],
            ("up", 0, 1, 2, 3), ("right", 0, 1, 1, 2), ["right", 0, 1, 2, 3], (None, 0, 1, 2, 3), dict(ODD_TABLE),
            InvalidKind, InvalidKind(3), NothingToUndo(), [even()], (even(), even()), {0: even()}, [seven()]]


def some_objects():
    """Objects of the package, each wanted by some parameter."""
    return [even(), seven(), Rule(even(), [])]


def shown(value):
    """What a value looks like inside; True and 1, lists and tuples look unlike."""
    if isinstance(value, Kinds):
        return f"Kinds({value.table()!r})"
    if isinstance(value, Rule):
        return f"Rule({value.kinds().table()!r}, {value.triples()!r})"
    if isinstance(value, list):
        return "[" + ", ".join([shown(item) for item in value]) + "]"
    if isinstance(value, tuple):
        return "(" + "".join([shown(item) + "," for item in value]) + ")"
    if isinstance(value, dict):
        return "{" + ", ".join([shown(key) + ": " + shown(item) for key, item in value.items()]) + "}"
    return repr(value)


def raised(call):
    """The error that a call raises, None if it raises none."""
    try:
        call()
    except Exception as error:
        return error
    return None


def check_wrong(test, function, good, wrong):
    """Asks for each parameter, in its order, for the error that each wrong argument raises.

    `good` makes the list of (name, argument) of a call that raises nothing; `wrong`
    is a list of (name, class of the error, list of wrong arguments). What stands
    behind a wrong argument is good in one call, and wrong in another one.
    """
    test.assertIsNone(raised(lambda: function(**dict(good()))))
    names = [name for name, _ in good()]
    junk = {name: arguments[0] for name, _, arguments in wrong}
    for name, kind, arguments in wrong:
        place = names.index(name)
        for argument in arguments:
            for spoilt in (False, True):
                passed = dict(good())
                passed[name] = argument
                for behind in names[place + 1:]:
                    if spoilt and behind in junk:
                        passed[behind] = junk[behind]
                before = shown(list(passed.values()))
                for call in (lambda: function(**passed), lambda: function(*passed.values())):
                    with test.subTest(function=function, parameter=name, argument=argument, spoilt=spoilt):
                        error = raised(call)
                        test.assertIs(type(error), kind)
                        test.assertIs(error.value, argument)
                        test.assertEqual(shown(list(passed.values())), before)


def wrong_for(allowed=()):
    """The pool, and objects of the package, without what looks like something allowed."""
    left_out = [shown(value) for value in allowed]
    return [value for value in pool() + some_objects() if shown(value) not in left_out]


def check_judge(test, judge, allowed=()):
    """Asks a judge of any object for all of the pool, of which it takes just what is allowed."""
    taken = [shown(value) for value in allowed]
    for value in pool() + some_objects():
        before = shown(value)
        with test.subTest(value=value):
            test.assertIs(judge(value), before in taken)
            test.assertEqual(shown(value), before)


def try_blocks(size):
    return [(first, end) for first in range(size) for end in range(first + 2, size + 1)]


def crossing(one, other):
    """Whether two blocks share a thing while none holds the other one, thing by thing."""
    ours, theirs = set(range(*one)), set(range(*other))
    return bool(ours & theirs) and not ours <= theirs and not theirs <= ours


def try_groupings(size):
    """All groupings of so many things, out of all lists of blocks."""
    lists = combinations(sorted(try_blocks(size)), size - 1)
    return sorted([list(blocks) for blocks in lists
                   if not any(crossing(one, other) for one, other in combinations(blocks, 2))])


def try_parts(grouping, block):
    """The one tuple of two blocks, or things, side by side that are a block."""
    first, end = block
    found = []
    for middle in range(first + 1, end):
        parts = ((first, middle), (middle, end))
        if all(part[1] - part[0] == 1 or part in grouping for part in parts):
            found.append(parts)
    assert len(found) == 1
    return found[0]


def try_deeds(grouping):
    """All deeds that fit, out of all words and rising counts, by the words of [24]."""
    size = len(grouping) + 1
    found = []
    for word in ("left", "right"):
        for first, second, third, end in combinations(range(size + 1), 4):
            inner = (first, third) if word == "right" else (second, end)
            if inner not in grouping or (first, end) not in grouping:
                continue
            a, b, c = (first, second), (second, third), (third, end)
            inside, outside = ((a, b), (inner, c)) if word == "right" else ((b, c), (a, inner))
            if try_parts(grouping, inner) == inside and try_parts(grouping, (first, end)) == outside:
                found.append((word, first, second, third, end))
    return sorted(found)


def try_done(grouping, deed):
    word, first, second, third, end = deed
    gone, new = (first, third), (second, end)
    if word == "left":
        gone, new = new, gone
    return sorted([block for block in grouping if block != gone] + [new])


def try_kind(kinds, row):
    """What a row makes, put together from its end on."""
    made = row[-1]
    for thing in reversed(row[:-1]):
        made = kinds.put(thing, made)
    return made


def rows_of(kinds, size):
    return [list(row) for row in product(kinds.kinds(), repeat=size)]
