"""Texts of kinds, rules, groupings, chains and changes, and their readers."""

from kindshifts.editions import is_change
from kindshifts.errors import InvalidChain, InvalidChange, InvalidText
from kindshifts.forms import is_deeds, is_grouping_of
from kindshifts.groupings import need_any_grouping
from kindshifts.kinds import Kinds, is_table, need_kinds
from kindshifts.rules import Rule, are_triples_of, need_rule

FIGURES = "0123456789"

# Each reader makes what a text seems to tell, and then asks whether the text is
# just the one that the writer makes of it.


def lines_of(text):
    """The lines of a text; none of the empty one, and none of what is no string."""
    return text.split("\n") if isinstance(text, str) and text else []


def number_of(piece):
    """The number that a piece is, None unless it is figures."""
    return int(piece) if piece and all([sign in FIGURES for sign in piece]) else None


def kinds_lines(kinds):
    table = kinds.table()
    return [" ".join([first, second, "=", table[(first, second)]]) for first, second in table]


def table_of(lines):
    """The dictionary that lines of keys and kinds tell, empty unless all are such lines."""
    rows = [line.split(" ") for line in lines]
    if not all([len(row) == 4 and row[2] == "=" for row in rows]):
        return {}
    return {(row[0], row[1]): row[3] for row in rows}


def kinds_text(kinds):
    need_kinds(kinds)
    return "\n".join(kinds_lines(kinds))


def read_kinds(text):
    table = table_of(lines_of(text))
    if not is_table(table) or kinds_text(Kinds(table)) != text:
        raise InvalidText(text)
    return Kinds(table)


def rule_text(rule):
    need_rule(rule)
    return "\n".join(kinds_lines(rule.kinds()) + ["let"] + [" ".join(triple) for triple in rule.triples()])


def read_rule(text):
    lines = lines_of(text)
    # No other line of such a text has a single piece.
    start = lines.index("let") if "let" in lines else 0
    table, triples = table_of(lines[:start]), [tuple(line.split(" ")) for line in lines[start + 1:]]
    if not is_table(table) or not are_triples_of(Kinds(table), triples):
        raise InvalidText(text)
    rule = Rule(Kinds(table), triples)
    if rule_text(rule) != text:
        raise InvalidText(text)
    return rule


def grouping_text(grouping):
    need_any_grouping(grouping)
    return "\n".join([f"{first} {end}" for first, end in grouping])


def grouping_of(lines):
    """The list of what lines tell as blocks, whether it is a grouping or not."""
    return [tuple([number_of(piece) for piece in line.split(" ")]) for line in lines]


def read_grouping(text):
    made = grouping_of(lines_of(text))
    if not is_grouping_of(len(made) + 1, made) or grouping_text(made) != text:
        raise InvalidText(text)
    return made


def deed_text(deed):
    return " ".join([deed[0]] + [str(place) for place in deed[1:]])


def deed_of(pieces):
    """The tuple that pieces tell as a deed, whether it is one or not."""
    return tuple(pieces[:1] + [number_of(piece) for piece in pieces[1:]])


def chain_text(chain):
    if not is_deeds(chain):
        raise InvalidChain(chain)
    return "\n".join([deed_text(deed) for deed in chain])


def read_chain(text):
    made = [deed_of(line.split(" ")) for line in lines_of(text)]
    if not is_deeds(made) or chain_text(made) != text:
        raise InvalidText(text)
    return made


def change_text(change):
    if not is_change(change):
        raise InvalidChange(change)
    if change[0] == "thing":
        _, place, kind = change
        return f"thing {place} {kind}"
    word, triple = change
    return " ".join([word] + list(triple))


def change_of_pieces(pieces):
    """The tuple that pieces tell as a change, whether it is one or not."""
    if len(pieces) == 3:
        return (pieces[0], number_of(pieces[1]), pieces[2])
    return (pieces[0], tuple(pieces[1:]))


def read_change(text):
    made = change_of_pieces(text.split(" ")) if isinstance(text, str) else None
    if not is_change(made) or change_text(made) != text:
        raise InvalidText(text)
    return made
