"""What the tests share: any objects, calls with wrong arguments, and plain trials."""

import random
from functools import lru_cache
from itertools import combinations, product

from kindshifts.combing import Comb, left_comb, right_comb
from kindshifts.ending import layers_of
from kindshifts.errors import InvalidComb, InvalidKind, InvalidText, NothingToUndo, Unsettled
from kindshifts.kinds import Kinds, first_kinds, greatest_kinds, last_kinds, ring_kinds
from kindshifts.rules import Rule
from kindshifts.settled import is_settled
from kindshifts.shelf import Shelf

EVEN_TABLE = {("e", "e"): "e", ("e", "o"): "o", ("o", "e"): "o", ("o", "o"): "e"}
ODD_TABLE = {("a", "a"): "b", ("a", "b"): "a", ("b", "a"): "b", ("b", "b"): "a"}


def even():
    return Kinds(dict(EVEN_TABLE))


def every_triple(kinds):
    names = kinds.kinds()
    return sorted(product(names, names, names))


def seven():
    return Rule(even(), [triple for triple in every_triple(even()) if triple != ("o", "o", "o")])


def some_kinds():
    """Kinds of one to four words, of several makes."""
    nil = {(x, y): "n" for x in "nxy" for y in "nxy"}
    wide = {("l", "l"): "l", ("l", "r"): "z", ("r", "l"): "z", ("r", "r"): "r"}
    wide.update({("z", x): "z" for x in "lrz"})
    wide.update({(x, "z"): "z" for x in "lrz"})
    return [even(), first_kinds(["z"]), lesser(), first_kinds(["a", "b", "c"]), ring_kinds(["x", "aa", "m", "b"]),
            greatest_kinds(["c", "a", "b"]), Kinds(nil), Kinds(wide)]


def lesser():
    return Kinds({("a", "a"): "a", ("a", "b"): "a", ("b", "a"): "a", ("b", "b"): "b"})


def two_kinds():
    """Kinds of two words, of all makes."""
    return [even(), lesser(), first_kinds(["a", "b"]), last_kinds(["a", "b"]), greatest_kinds(["a", "b"]),
            Kinds({(x, y): "n" for x in "mn" for y in "mn"})]


def rule_of(kinds, number):
    """The rule of those triples, ascending, whose binary figure in the number is 1."""
    return Rule(kinds, [triple for place, triple in enumerate(every_triple(kinds)) if number >> place & 1])


def mixed():
    """A settled comb of arrows of both words, that of the examples."""
    triples = every_triple(even())[:7]
    ways = {triple: "left" if triple in [("o", "e", "o"), ("e", "e", "o")] else "right" for triple in triples}
    pairs = list(product("eo", "eo"))
    return Comb(Rule(even(), triples), ways, [{pair: (int(pair == ("e", "o")), 0, 0) for pair in pairs},
                                              {pair: (0, 1, 0) for pair in pairs}])


def unsettled():
    return right_comb(Rule(even(), [("e", "o", "o"), ("o", "o", "o")]))


@lru_cache(maxsize=None)
def mixed_combs(many, seed=3):
    """Combs of arrows of both words, of kinds of several makes, settled or not."""
    chance, found = random.Random(seed), []
    while len(found) < many:
        kinds = chance.choice(some_kinds() + two_kinds() * 3)
        share = 0.7 if len(kinds.kinds()) < 3 else 0.3
        triples = [triple for triple in every_triple(kinds) if chance.random() < share][:12]
        ways = {triple: chance.choice(["left", "right"]) for triple in triples}
        layers = layers_of(Rule(kinds, triples), ways)
        if layers is not None and len(set(ways.values())) == 2:
            found.append(Comb(Rule(kinds, triples), ways, layers))
    return found


def settled_combs():
    """Settled combs of one way and of both ways."""
    rules = [rule_of(kinds, number) for kinds in two_kinds() for number in (1, 15, 32, 51, 85, 129, 170, 252, 255)]
    rules += [Rule(first_kinds(["a", "b", "c"]), every_triple(first_kinds(["a", "b", "c"]))[1::2])]
    found = some_combs() + [made(rule) for rule in rules for made in (right_comb, left_comb)] + mixed_combs(120)
    return [comb for comb in found if is_settled(comb)]


def some_combs():
    """Combs of one way and of both ways, settled or not, of few triples and of many."""
    rules = [seven(), Rule(even(), []), Rule(even(), every_triple(even())), Rule(even(), every_triple(even())[1::2]),
             Rule(lesser(), [triple for triple in every_triple(lesser()) if triple != ("a", "a", "b")]),
             Rule(first_kinds(["z"]), [("z", "z", "z")]), Rule(first_kinds(["z"]), [])]
    return [mixed(), unsettled()] + [made(rule) for rule in rules for made in (right_comb, left_comb)]


def deep(depth):
    """A list nested so deep."""
    value = []
    for _ in range(depth):
        value = [value]
    return value


def pool():
    """Any objects, of which none is what any parameter wants, but those of `allowed`."""
    return [None, True, False, 0, 1, -1, 10 ** 40, "", "A", "a b", "abcdefghi", "e1", "right", "left", chr(10),
            [], (), {}, [None], [[]], [()], [{}], ((),), ("e",), (None, None), (0, 2), [0, 2], (True, 2), (False, 2),
            (0, True), ("0", "2"), [(0, 2), (0, 2)], [(True, 3), (0, 2)], {"e": "e"}, {"e": []}, {True: 1, 0: False},
            {None: None}, {("e", "e"): "e", 5: "e"}, {(): ()}, {(("e", "e"), "e"): "e"}, {"a": {"b": [1, ("c",)]}},
            deep(30), (deep(3), {"k": deep(2)}), ["e", ["o"]], ["e", None], ["A"], ("right", 0, 1, 2), [("e", "o")],
            ("up", 0, 1, 2, 3), ("right", 0, 1, 1, 2), ["right", 0, 1, 2, 3], (None, 0, 1, 2, 3), dict(ODD_TABLE),
            InvalidKind, InvalidKind(3), NothingToUndo(), [even()], (even(), even()), {0: even()}, [seven()]]


def some_objects():
    """Objects of the package, each wanted by some parameter."""
    return [even(), seven(), Rule(even(), []), mixed(), Shelf(mixed())]


def shown(value):
    """What a value looks like inside; True and 1, lists and tuples look unlike."""
    if isinstance(value, Kinds):
        return f"Kinds({value.table()!r})"
    if isinstance(value, Rule):
        return f"Rule({value.kinds().table()!r}, {value.triples()!r})"
    if isinstance(value, Comb):
        return f"Comb({shown(value.rule())}, {value.arrows()!r}, {value.layers()!r})"
    if isinstance(value, Shelf):
        return f"Shelf({shown(there(value))})"
    if isinstance(value, list):
        return "[" + ", ".join([shown(item) for item in value]) + "]"
    if isinstance(value, tuple):
        return "(" + "".join([shown(item) + "," for item in value]) + ")"
    if isinstance(value, dict):
        return "{" + ", ".join([shown(key) + ": " + shown(item) for key, item in value.items()]) + "}"
    return repr(value)


def there(shelf):
    """What the methods of a shelf tell, without what can be undone and made again."""
    return [[(spot, shelf.row_there(spot), shelf.grouping_there(spot), shelf.wish_there(spot))
             for spot in shelf.spots()], shelf.log()]


def raised(call):
    """The error that a call raises, None if it raises none."""
    try:
        call()
    except Exception as error:
        return error
    return None


def check_wrong(test, function, good, wrong):
    """Asks for each parameter, in its order, for the error that each wrong argument raises.

    `good` makes the list of (name, argument) of a call that raises nothing; `wrong`
    is a list of (name, class of the error, list of wrong arguments). What stands
    behind a wrong argument is good in one call, and wrong in another one.
    """
    test.assertIsNone(raised(lambda: function(**dict(good()))))
    names = [name for name, _ in good()]
    junk = {name: arguments[0] for name, _, arguments in wrong}
    for name, kind, arguments in wrong:
        place = names.index(name)
        for argument in arguments:
            for spoilt in (False, True):
                passed = dict(good())
                passed[name] = argument
                for behind in names[place + 1:]:
                    if spoilt and behind in junk:
                        passed[behind] = junk[behind]
                before = shown(list(passed.values()))
                for call in (lambda: function(**passed), lambda: function(*passed.values())):
                    with test.subTest(function=function, parameter=name, argument=argument, spoilt=spoilt):
                        error = raised(call)
                        test.assertIs(type(error), kind)
                        test.assertIs(error.value, argument)
                        test.assertEqual(shown(list(passed.values())), before)


def check_unsettled(test, function, good, wrong):
    """Asks a function of a settled comb, its first argument, for Unsettled behind all other errors.

    `good` makes the list of (name, argument) of a call; `wrong` is as for `check_wrong`.
    """
    comb = unsettled()
    passed = dict(good())
    passed["comb"] = comb
    error = raised(lambda: function(**passed))
    test.assertIs(type(error), Unsettled, function)
    test.assertIs(error.value, comb)
    for name, kind, arguments in wrong:
        for argument in arguments:
            error = raised(lambda: function(**{**passed, name: argument}))
            with test.subTest(function=function, parameter=name, argument=argument):
                if name == "comb":
                    test.assertIs(type(error), InvalidComb)
                else:
                    test.assertIs(type(error), kind)
                    test.assertIs(error.value, argument)


def wrong_for(allowed=()):
    """The pool, and objects of the package, without what looks like something allowed."""
    left_out = [shown(value) for value in allowed]
    return [value for value in pool() + some_objects() if shown(value) not in left_out]


def check_judge(test, judge, allowed=()):
    """Asks a judge of any object for all of the pool, of which it takes just what is allowed."""
    taken = [shown(value) for value in allowed]
    for value in pool() + some_objects():
        before = shown(value)
        with test.subTest(value=value):
            test.assertIs(judge(value), before in taken)
            test.assertEqual(shown(value), before)


def try_blocks(size):
    return [(first, end) for first in range(size) for end in range(first + 2, size + 1)]


def crossing(one, other):
    """Whether two blocks share a thing while none holds the other one, thing by thing."""
    ours, theirs = set(range(*one)), set(range(*other))
    return bool(ours & theirs) and not ours <= theirs and not theirs <= ours


@lru_cache(maxsize=None)
def kept_groupings(size):
    lists = combinations(sorted(try_blocks(size)), size - 1)
    return sorted(blocks for blocks in lists
                  if not any(crossing(one, other) for one, other in combinations(blocks, 2)))


def try_groupings(size):
    """All groupings of so many things, out of all lists of blocks."""
    return [list(blocks) for blocks in kept_groupings(size)]


def try_parts(grouping, block):
    """The one tuple of two blocks, or things, side by side that are a block."""
    first, end = block
    found = []
    for middle in range(first + 1, end):
        parts = ((first, middle), (middle, end))
        if all(part[1] - part[0] == 1 or part in grouping for part in parts):
            found.append(parts)
    assert len(found) == 1
    return found[0]


def try_deeds(grouping):
    """All deeds that fit, out of all words and rising counts, by the words of [24]."""
    size = len(grouping) + 1
    found = []
    for word in ("left", "right"):
        for first, second, third, end in combinations(range(size + 1), 4):
            inner = (first, third) if word == "right" else (second, end)
            if inner not in grouping or (first, end) not in grouping:
                continue
            a, b, c = (first, second), (second, third), (third, end)
            inside, outside = ((a, b), (inner, c)) if word == "right" else ((b, c), (a, inner))
            if try_parts(grouping, inner) == inside and try_parts(grouping, (first, end)) == outside:
                found.append((word, first, second, third, end))
    return sorted(found)


def try_done(grouping, deed):
    word, first, second, third, end = deed
    gone, new = (first, third), (second, end)
    if word == "left":
        gone, new = new, gone
    return sorted([block for block in grouping if block != gone] + [new])


def try_kind(kinds, row):
    """What a row makes, put together from its end on."""
    made = row[-1]
    for thing in reversed(row[:-1]):
        made = kinds.put(thing, made)
    return made


def try_triple(kinds, row, deed):
    _, first, second, third, end = deed
    return tuple(try_kind(kinds, row[a:b]) for a, b in [(first, second), (second, third), (third, end)])


@lru_cache(maxsize=None)
def try_steps(size):
    """All tuples of a grouping of so many things, a deed that fits it, and what it makes, groupings as tuples."""
    return [(tuple(grouping), deed, tuple(try_done(grouping, deed)))
            for grouping in try_groupings(size) for deed in try_deeds(grouping)]


def try_let(rule, row):
    """For each grouping, as a tuple, the list of the tuples of a let deed and what it makes."""
    graph = {tuple(grouping): [] for grouping in try_groupings(len(row))}
    triples = rule.triples()
    for here, deed, there in try_steps(len(row)):
        if try_triple(rule.kinds(), row, deed) in triples:
            graph[here].append((deed, there))
    return graph


def try_along(comb, row):
    """The same for the deeds along the arrows of a comb."""
    arrows, kinds = comb.arrows(), comb.rule().kinds()
    return {here: [(deed, there) for deed, there in steps if arrows[try_triple(kinds, row, deed)] == deed[0]]
            for here, steps in try_let(comb.rule(), row).items()}


def try_classes(rule, row):
    """The ascending list of the classes: lists of groupings that are poured together as long as a deed joins two."""
    graph = try_let(rule, row)
    mark = {here: here for here in graph}
    for here, steps in graph.items():
        for _, there in steps:
            if mark[here] != mark[there]:
                gone, kept = mark[there], mark[here]
                mark = {some: kept if mark[some] == gone else mark[some] for some in mark}
    return sorted(sorted(list(here) for here in mark if mark[here] == some) for some in sorted(set(mark.values())))


def try_settled(comb, row):
    """Whether each class of a row has just one last grouping."""
    graph = try_along(comb, row)
    return all(sum(not graph[tuple(some)] for some in found) == 1 for found in try_classes(comb.rule(), row))


def try_last(graph, found):
    """The one last grouping of a class."""
    lasts = [some for some in found if not graph[tuple(some)]]
    assert len(lasts) == 1
    return lasts[0]


def try_key(grouping, span):
    """What stands in the order of splits as groupings do: tuples of the split, the left part and the right one."""
    if span[1] - span[0] == 1:
        return ()
    left, right = try_parts(grouping, span)
    return (left[1], try_key(grouping, left), try_key(grouping, right))


def try_order(groupings):
    """Groupings of as many things in the order of splits."""
    return sorted(groupings, key=lambda grouping: try_key(grouping, (0, len(grouping) + 1)))


def try_fewest(graph, start):
    """For each grouping the least number of steps from a start and how many walks of so many there are."""
    found, walks, many = {}, {start: 1}, 0
    while many <= len(graph):
        for here in walks:
            found.setdefault(here, (many, walks[here]))
        onward = {}
        for here, number in walks.items():
            for _, there in graph[here]:
                onward[there] = onward.get(there, 0) + number
        walks, many = onward, many + 1
    return found


def rows_of(kinds, size):
    return [list(row) for row in product(kinds.kinds(), repeat=size)]


def try_heads(size):
    """For each way of being alike of so many things in noughts a list of sums ahead of each place."""
    lists = [[0]]
    for _ in range(size):
        lists = [heads + [more] for heads in lists for more in range(max(heads) + 2)]
    return lists


def number_rows(size):
    """A row of whole numbers for each way of being alike in noughts."""
    return [[end - ahead for ahead, end in zip(heads, heads[1:])] for heads in try_heads(size)]


def all_places():
    """The eight lists of places, as the document writes them."""
    return [["a"], ["b"], ["c"], ["a", "b"], ["b", "c"], ["a", "c"], ["a", "b", "c"], ["a", "b", "c", "whole"]]


def try_noughts(row, deed):
    """Which of A, B, C and of all three are nought."""
    _, first, second, third, end = deed
    return [sum(row[first:second]) == 0, sum(row[second:third]) == 0, sum(row[third:end]) == 0,
            sum(row[first:end]) == 0]


def try_nought_let(row, places):
    """For each grouping, as a tuple, the list of the tuples of a deed that is let and what it makes."""
    graph = {tuple(grouping): [] for grouping in try_groupings(len(row))}
    for here, deed, there in try_steps(len(row)):
        a, b, c, whole = try_noughts(row, deed)
        if a and "a" in places or b and "b" in places or c and "c" in places or whole and "whole" in places:
            graph[here].append((deed, there))
    return graph


def try_poured(graph):
    """The ascending list of the classes of the groupings of a graph."""
    mark = {here: here for here in graph}
    for start in graph:
        if mark[start] == start:
            edge = [start]
            for here in edge:
                for _, there in graph[here]:
                    if mark[there] != start:
                        mark[there] = start
                        edge.append(there)
    return sorted(sorted(list(here) for here in mark if mark[here] == some) for some in sorted(set(mark.values())))


def bent_texts(text):
    """The texts that are bent in one place: a sign or a line less, more, or another one."""
    lines = text.split(chr(10))
    signs = [" ", chr(10), chr(9), "0", "1", "a", "A", "-", "=", "+", "_", chr(0x663), chr(0xb2), chr(13)]
    found = [text[:place] + text[place + 1:] for place in range(len(text))]
    for place in range(len(text) + 1):
        found += [text[:place] + sign + text[place:] for sign in signs]
        found += [text[:place] + sign + text[place + 1:] for sign in signs]
    for place, line in enumerate(lines):
        found.append(chr(10).join(lines[:place] + lines[place + 1:]))
        found.append(chr(10).join(lines[:place] + [line, line] + lines[place + 1:]))
        found.append(chr(10).join(lines[:place] + lines[place + 1:place + 2] + [line] + lines[place + 2:]))
    return [bent for bent in dict.fromkeys(found) if bent != text]


def check_bent(test, reader, writer, texts):
    """Asks a reader for all bent texts: it takes just those that the writer makes of what it reads."""
    taken = 0
    for text in texts:
        for bent in bent_texts(text):
            error = raised(lambda: reader(bent))
            with test.subTest(reader=reader, text=bent):
                if error is None:
                    taken += 1
                    test.assertEqual(writer(reader(bent)), bent)
                else:
                    test.assertIs(type(error), InvalidText)
                    test.assertIs(error.value, bent)
    return taken
