"""Texts of ledgers."""

from carriedends.errors import BadRow, BadRule, BadText
from carriedends.webs import RULES
from carriedends.words import is_short, read_length, read_number, read_numbers, row_of

# A bundle in a row has so many numbers, and a length at one index.
BUNDLE_PARTS = 5
BUNDLE_LENGTHS = (2,)


def _check_rule(rule):
    """Raise BadRule(rule) unless it is one of the three."""
    if rule not in RULES:
        raise BadRule(rule)


def _with_commas(numbers):
    """Return the word of several numbers."""
    return ",".join([str(number) for number in numbers])


def _text_of_row(row):
    """Return the row of a text that tells a row of a ledger, or ("coat", coat)."""
    if row[0] == "stuck":
        bundles = [":".join([str(part) for part in bundle]) for bundle in row[2]]
        return row_of(("stuck", _with_commas(row[1]), *bundles))
    if row[0] == "free":
        _, lot, counts, spares, common, ring, found = row
        told = "-" if ring is None else ring
        return row_of(("free", _with_commas(lot), _with_commas(counts), spares, common, told, _with_commas(found)))
    return row_of(row)


def text_of_ledger(rule, ledger):
    """Return the text of a ledger, which is one by form."""
    _check_rule(rule)
    rows = ledger
    if rule == "own":
        rows = [row for coat, table in enumerate(ledger) for row in (("coat", coat), *table)]
    for index, row in enumerate(rows):
        if not is_short(row):
            raise BadRow(index)
    return "\n".join([_text_of_row(row) for row in rows])


def _read_bundle(word):
    """Return the bundle that a word tells, None if it tells none."""
    parts = word.split(":")
    return read_numbers(parts, BUNDLE_LENGTHS) if len(parts) == BUNDLE_PARTS else None


def _read_one(words):
    """Return the row that the words behind "one" tell, None if they tell none."""
    numbers = read_numbers(words, ())
    return ("one", numbers[0]) if numbers is not None and len(numbers) == 1 else None


def _read_stuck(words):
    """Return the row that the words behind "stuck" tell, None if they tell none."""
    if len(words) < 2:
        return None
    lot = read_numbers(words[0].split(","), ())
    bundles = [_read_bundle(word) for word in words[1:]]
    return None if lot is None or None in bundles else ("stuck", lot, tuple(bundles))


def _read_free(words):
    """Return the row that the words behind "free" tell, None if they tell none."""
    if len(words) != 6:
        return None
    lot, counts = read_numbers(words[0].split(","), ()), read_numbers(words[1].split(","), ())
    spares, common = read_number(words[2]), read_number(words[3])
    ring = read_number(words[4])
    found = [read_length(word) for word in words[5].split(",")]
    if None in (lot, counts, spares, common) or None in found or (ring is None and words[4] != "-"):
        return None
    return ("free", lot, counts, spares, common, ring, tuple(found))


def _read_row(row):
    """Return the row of a ledger that a row of a text tells, None if it tells none."""
    words = row.split(" ")
    if words[0] == "one":
        return _read_one(words[1:])
    if words[0] == "stuck":
        return _read_stuck(words[1:])
    return _read_free(words[1:]) if words[0] == "free" else None


def ledger_of(rule, text):
    """Return the ledger by form that a text tells."""
    _check_rule(rule)
    texts = text.split("\n") if text else []
    tables = [] if rule == "own" else [[]]
    for index, words in enumerate(texts):
        if rule == "own" and words == row_of(("coat", len(tables))):
            tables.append([])
            continue
        row = _read_row(words)
        if row is None or not tables:
            raise BadText(index)
        tables[-1].append(row)
    found = tuple([tuple(table) for table in tables])
    return found if rule == "own" else found[0]
