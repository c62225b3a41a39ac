"""Texts judged a second time, plainly: for each kind of text the row that BadText names, or None if it is good."""

import re

NUMBER = "(?:0|[1-9][0-9]{0,39})"
LENGTH = "(?:0|-?[1-9][0-9]{0,39})"
SEVERAL = f"{NUMBER}(?:,{NUMBER})*"
BUNDLE = f"{NUMBER}:{NUMBER}:{LENGTH}:{NUMBER}:{NUMBER}"

DEEDS = (
    f"carry {NUMBER} {NUMBER} {LENGTH} {NUMBER} {NUMBER} {LENGTH} {NUMBER} (?P<j>{NUMBER})",
    f"round {NUMBER} {NUMBER} {LENGTH} {NUMBER} {NUMBER} {LENGTH} {NUMBER} {LENGTH} {NUMBER} (?P<j>{NUMBER}) (?P<q>{NUMBER})",
)
LEDGER_ROWS = (
    f"one {NUMBER}", f"stuck {SEVERAL}(?: {BUNDLE})+",
    f"free {SEVERAL} {SEVERAL} {NUMBER} {NUMBER} (?:-|{NUMBER}) {LENGTH}(?:,{LENGTH})*",
)


def _numbers(pattern, row):
    """The numbers in a row of just this form, None if it has another form."""
    if not re.fullmatch(pattern, row):
        return None
    return [int(word) for word in row.split(" ") if re.fullmatch("-?[0-9]+", word)]


def _fault_of_rows(text, is_head, bundle_of):
    """The fault of a text of a first row and of bundles, which are pairs (what is counted, count)."""
    rows = text.split("\n")
    if not is_head(rows[0]):
        return 0
    seen = []
    for index, row in enumerate(rows[1:], 1):
        bundle = bundle_of(row)
        if bundle is None or not 1 <= bundle[1] <= 10 ** 9 or seen and not seen[-1][0] < bundle[0]:
            return index
        seen.append(bundle)
    if len(seen) > 30 or sum(count for _, count in seen) > 10 ** 9:
        return len(rows)
    return None


def web_fault(text):
    head = re.match(f"web ({NUMBER}) ({NUMBER}) ({NUMBER}) (all|others|own)(?:\n|$)", text)
    n, wheel, coats = (int(head.group(index)) for index in (1, 2, 3)) if head else (0, 0, 0)

    def is_head(_):
        return bool(head) and 1 <= n <= 20 and wheel <= 10 ** 6 and 1 <= coats <= 4

    def bundle_of(row):
        numbers = _numbers(f"thread {NUMBER} {NUMBER} {LENGTH} {NUMBER} {NUMBER}", row)
        if numbers is None:
            return None
        u, v, length, coat, count = numbers
        is_length = 0 <= length < wheel if wheel else -10 ** 12 < length < 10 ** 12
        return ((u, v, length, coat), count) if u < v < n and is_length and coat < coats else None

    return _fault_of_rows(text, is_head, bundle_of)


def patches_fault(text):
    head = re.match(f"patches ({NUMBER}) ({NUMBER})(?:\n|$)", text)
    n, k = (int(head.group(index)) for index in (1, 2)) if head else (0, 0)

    def bundle_of(row):
        numbers = _numbers("patch" + f" {NUMBER}" * (k + 1), row)
        if numbers is None:
            return None
        corners = tuple(numbers[:k])
        good = all(corner < n for corner in corners) and all(one < other for one, other in zip(corners, corners[1:]))
        return (corners, numbers[k]) if good else None

    return _fault_of_rows(text, lambda _: bool(head) and 1 <= n <= 11 and 2 <= k <= 4, bundle_of)


def arrows_fault(text):
    head = re.match(f"arrows ({NUMBER})(?:\n|$)", text)
    n = int(head.group(1)) if head else 0

    def bundle_of(row):
        numbers = _numbers(f"arrow {NUMBER} {NUMBER} {NUMBER}", row)
        if numbers is None or not (numbers[0] < n and numbers[1] < n and numbers[0] != numbers[1]):
            return None
        return (tuple(numbers[:2]), numbers[2])

    return _fault_of_rows(text, lambda _: bool(head) and 1 <= n <= 10, bundle_of)


def is_deed_row(row):
    """Whether a row is one of a run's text."""
    for pattern in DEEDS:
        found = re.fullmatch(pattern, row)
        if found:
            return all(int(word) >= 1 for word in found.groupdict().values())
    return False


def run_fault(text):
    rows = text.split("\n") if text else []
    for index, row in enumerate(rows):
        if not is_deed_row(row):
            return index
    return len(rows) if len(rows) > 100000 else None


def ledger_fault(rule, text):
    coats = 0
    for index, row in enumerate(text.split("\n") if text else []):
        if rule == "own" and row == f"coat {coats}":
            coats += 1
        elif rule == "own" and coats == 0 or not any(re.fullmatch(pattern, row) for pattern in LEDGER_ROWS):
            return index
    return None


def spoilt(text, signs):
    """Texts near a text: with a sign put in, left out or replaced, with a row left out, twice, or two exchanged."""
    for at in range(len(text) + 1):
        for sign in signs:
            yield text[:at] + sign + text[at:]
            yield text[:at] + sign + text[at + 1:]
        yield text[:at] + text[at + 1:]
        yield text[:at] + text[at:at + 2][::-1] + text[at + 2:]
    rows = text.split("\n")
    for at in range(len(rows)):
        yield "\n".join(rows[:at] + rows[at + 1:])
        yield "\n".join(rows[:at] + [rows[at]] + rows[at:])
        for other in range(at):
            changed = list(rows)
            changed[at], changed[other] = rows[other], rows[at]
            yield "\n".join(changed)


# The last ones are digits elsewhere, but not here.
SIGNS = ("0", "1", "7", "-", " ", "\n", ",", ":", "a", "+", "_", "\t", "\r", "\x0b", "\u0661", "\u00b2", "\uff11")
