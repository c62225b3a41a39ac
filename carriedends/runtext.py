"""Texts of runs."""

from carriedends.deeds import is_deed
from carriedends.errors import BadRow, BadText, TooMany
from carriedends.runs import MOST_DEEDS
from carriedends.words import is_short, read_row, row_of

# For each deed how many numbers it has, and at which indexes among them its lengths stand.
FORMS = {"carry": (8, (2, 5)), "round": (11, (2, 5, 7))}


def _can_be_written(deed):
    """Return whether deed, which may be any value, is a deed by form that can be written as a row."""
    if not is_deed(deed):
        return False
    lengths = FORMS[deed[0]][1]
    whole = [number for index, number in enumerate(deed[1:]) if index not in lengths]
    return min(whole) >= 0 and is_short(deed)


def text_of_run(run):
    """Return the text of a run."""
    if len(run) > MOST_DEEDS:
        raise TooMany(len(run))
    for index, deed in enumerate(run):
        if not _can_be_written(deed):
            raise BadRow(index)
    return "\n".join([row_of(deed) for deed in run])


def deed_of(row):
    """Return the deed that a row tells, None if it tells none."""
    for name in FORMS:
        many, lengths = FORMS[name]
        numbers = read_row(row, name, many, lengths)
        if numbers is not None and is_deed((name, *numbers)):
            return (name, *numbers)
    return None


def run_of(text):
    """Return the run that a text tells."""
    if text == "":
        return ()
    deeds = []
    for index, row in enumerate(text.split("\n")):
        deed = deed_of(row)
        if deed is None:
            raise BadText(index)
        deeds.append(deed)
    if len(deeds) > MOST_DEEDS:
        raise BadText(len(deeds))
    return tuple(deeds)
