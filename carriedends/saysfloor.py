"""The floor in words: rows of words that are done or answered."""

from carriedends.errors import BadRow
from carriedends.floorasks import can_go_home, kin, way_home, why_not
from carriedends.powers import power
from carriedends.runtext import deed_of, text_of_run
from carriedends.webtext import text_of_web
from carriedends.words import read_row

MOST_DIGITS_TOLD = 4000


def _do_bundle(floor, row):
    """Lay or lift as a row says; return whether it says so."""
    added = read_row(row, "lay", 5, (2,))
    if added is not None:
        u, v, length, coat, count = added
        floor.lay(u, v, length, coat, count)
        return True
    taken = read_row(row, "lift", 5, (2,))
    if taken is not None:
        u, v, length, coat, count = taken
        floor.lift(u, v, length, coat, count)
    return taken is not None


def _do_deed(floor, row):
    """Carry or lead around as a row says; return whether it says so."""
    deed = deed_of(row)
    if deed is None:
        return False
    if deed[0] == "carry":
        _, u, v, length, coat, w, rail, railcoat, j = deed
        floor.carry(u, v, length, coat, w, rail, railcoat, j=j)
    else:
        _, u, v, length, coat, w, out, outcoat, back, backcoat, j, q = deed
        floor.around(u, v, length, coat, w, out, outcoat, back, backcoat, j=j, q=q)
    return True


def _do(floor, row):
    """Do what a row says."""
    if row == "mark":
        floor.mark()
    elif row == "undo":
        floor.undo()
    elif row == "redo":
        floor.redo()
    elif not (_do_deed(floor, row) or _do_bundle(floor, row)):
        raise BadRow(row)


def _in_one_row(text):
    """Return a text with a semicolon for each line feed."""
    return text.replace("\n", ";")


def answer(floor, row):
    """Do the deed or answer the question of a row."""
    if row == "web":
        return _in_one_row(text_of_web(floor.web()))
    if row == "made":
        return str(floor.made())
    if row == "home":
        return "yes" if can_go_home(floor) else "no"
    _do(floor, row)
    return "ok"


def _is_great(number):
    """Return whether a number has more digits than are told."""
    return abs(number) >= power(10, MOST_DIGITS_TOLD)


def _has_great(thing):
    """Return whether a number in a paper has more digits than are told."""
    if isinstance(thing, tuple):
        return any([_has_great(part) for part in thing])
    return not isinstance(thing, str) and _is_great(thing)


def _word_of(part):
    """Return the word for a part of a paper."""
    if isinstance(part, tuple):
        numbers = ",".join([str(number) for number in part])
        return f"({numbers})"
    return str(part)


def _told_paper(paper):
    """Return the words for a paper."""
    if _has_great(paper):
        return "great"
    return " ".join([_word_of(part) for part in paper])


def _told_size(size):
    """Return the word for how many webs can be come to."""
    if size is None:
        return "endless"
    return "great" if _is_great(size) else str(size)


def asked(floor, row):
    """Answer the question of a row about the way home."""
    if row == "way":
        return _in_one_row(text_of_run(way_home(floor)))
    if row == "why":
        return _told_paper(why_not(floor))
    if row == "kin":
        return _told_size(kin(floor))
    raise BadRow(row)
