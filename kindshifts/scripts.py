"""Scripts: lists of commands that are played on a shelf, and their texts."""

from kindshifts.errors import (Apart, InvalidDeed, InvalidGrouping, InvalidRow, InvalidScript, InvalidSpot, InvalidText,
                               NothingToRedo, NothingToUndo, Refused)
from kindshifts.forms import is_count, is_deed, is_grouping_of
from kindshifts.kinds import is_kind
from kindshifts.papers import deed_of, deed_text, grouping_of, grouping_text, lines_of, number_of
from kindshifts.shelf import Shelf, commanded, copied, need_shelf

# What stands behind the word of each command.
FORMS = {"put": ("row", "grouping"), "take": ("spot",), "shift": ("spot", "deed"), "comb_once": ("spot",),
         "wish": ("spot", "grouping"), "unwish": ("spot",), "regroup": ("spot", "grouping"),
         "link": ("spot", "spot"), "part": ("spot",), "deeds": ("spot",), "met": ("spot",), "undo": (), "redo": (),
         "try": ("script",)}

# What is said with what the call returns; of other commands it is said that they are done.
SAID = {"put": "put", "comb_once": "combed", "part": "parted", "deeds": "deeds", "met": "met"}


def is_formed(form, value):
    """Whether any object is what a form asks for."""
    if form == "spot":
        return is_count(value)
    if form == "row":
        return isinstance(value, list) and len(value) > 0 and all([is_kind(name) for name in value])
    if form == "grouping":
        return isinstance(value, list) and is_grouping_of(len(value) + 1, value)
    return is_deed(value) if form == "deed" else is_script(value)


def is_command(value):
    if not isinstance(value, tuple) or not value or not isinstance(value[0], str) or value[0] not in FORMS:
        return False
    forms = FORMS[value[0]]
    return len(value) == len(forms) + 1 and all([is_formed(form, part) for form, part in zip(forms, value[1:])])


def is_script(value):
    return isinstance(value, list) and all([is_command(command) for command in value])


def need_script(script):
    if not is_script(script):
        raise InvalidScript(script)


def play(shelf, script):
    need_shelf(shelf)
    need_script(script)
    return played(shelf, script)


def played(shelf, script):
    said = []
    for command in script:
        if command[0] == "try":
            with shelf.trial():
                said.append(("tried", played(shelf, command[1])))
        else:
            said.append(answered(shelf, command))
    return said


def called(shelf, command):
    """Calls the method that a command means, and returns what it returns."""
    word = command[0]
    if word == "deeds":
        return shelf.deeds(command[1])
    if word == "met":
        return shelf.is_met(command[1])
    if word == "undo":
        return shelf.undo()
    if word == "redo":
        return shelf.redo()
    return commanded(shelf, command)


def answered(shelf, command):
    """What is said of a command other than a try."""
    try:
        told = called(shelf, command)
    except InvalidRow:
        return ("refused", "InvalidRow")
    except InvalidGrouping:
        return ("refused", "InvalidGrouping")
    except InvalidSpot:
        return ("refused", "InvalidSpot")
    except InvalidDeed:
        return ("refused", "InvalidDeed")
    except Apart:
        return ("refused", "Apart")
    except Refused:
        return ("refused", "Refused")
    except NothingToUndo:
        return ("refused", "NothingToUndo")
    except NothingToRedo:
        return ("refused", "NothingToRedo")
    return (SAID[command[0]], told) if command[0] in SAID else ("done",)


def script_text(script):
    need_script(script)
    return "\n".join(script_lines(script))


def script_lines(script):
    return [line for command in script for line in command_lines(command)]


def command_lines(command):
    head, inner, closes = [command[0]], [], False
    for form, part in zip(FORMS[command[0]], command[1:]):
        if form == "spot":
            head.append(str(part))
        elif form == "row":
            head.extend(part)
        elif form == "deed":
            head.append(deed_text(part))
        else:
            inner = lines_of(grouping_text(part)) if form == "grouping" else script_lines(part)
            closes = True
    return [" ".join(head)] + ["  " + line for line in inner] + (["end"] if closes else [])


def read_script(text):
    made = script_of(lines_of(text))
    if not is_script(made) or script_text(made) != text:
        raise InvalidText(text)
    return made


def script_of(lines):
    """The list of what lines tell as commands, whether it is a script or not; None where an `end` is missing."""
    made, at = [], 0
    while at < len(lines):
        pieces, inner = lines[at].split(" "), []
        if pieces[0] in ("put", "wish", "regroup", "try"):
            behind = lines[at + 1:]
            if "end" not in behind:
                return None
            inner = [line[2:] for line in behind[:behind.index("end")]]
            at += len(inner) + 1
        made.append(command_of(pieces, inner))
        at += 1
    return made


def command_of(pieces, inner):
    """The tuple that the pieces of a line, and the lines further in, tell as a command, whether it is one or not."""
    word, rest = pieces[0], pieces[1:]
    if word == "put":
        return (word, rest, grouping_of(inner))
    if word == "try":
        return (word, script_of(inner))
    if word == "shift":
        return (word,) + tuple([number_of(piece) for piece in rest[:1]]) + (deed_of(rest[1:]),)
    told = (word,) + tuple([number_of(piece) for piece in rest])
    return told + (grouping_of(inner),) if word in ("wish", "regroup") else told


def end_of(comb, script):
    shelf = Shelf(comb)
    need_script(script)
    played(shelf, script)
    return {spot: (shelf.row_there(spot), shelf.grouping_there(spot), shelf.wish_there(spot))
            for spot in shelf.spots()}


def shortened(comb, script):
    end, left = end_of(comb, script), script
    for place in reversed(range(len(script))):
        tried = left[:place] + left[place + 1:]
        if end_of(comb, tried) == end:
            left = tried
    # A try changes nothing, so none is left.
    return [copied(command) for command in left]
