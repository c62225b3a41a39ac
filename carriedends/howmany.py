"""Numbers of ledgers."""

from carriedends.choosing import bags, choose
from carriedends.errors import BadCount, BadSize, BadWheel
from carriedends.powers import divisors, power
from carriedends.rests import measure
from carriedends.webs import MOST_PLACES

MOST_COUNTED = 40
GREATEST_COUNTED_WHEEL = 1000


def _check_counts(many, M):
    """Raise the error that is due unless ledgers of so many threads with this wheel are counted."""
    if not 0 <= many <= MOST_COUNTED:
        raise BadCount(many)
    if not 1 <= M <= GREATEST_COUNTED_WHEEL:
        raise BadWheel(M)


def _rows_of(b, many, M):
    """Return how many rows there are for b given places with so many threads."""
    if b == 1:
        return 1 if many == 0 else 0
    if b == 2:
        return bags(M, many) if many else 0
    if many < b - 1:
        return 0
    if many == b - 1:
        return power(M, b - 1)
    if many == b:
        return sum([power(measure(M, (ring,)), b - 1) for ring in range(M // 2 + 1)])
    return sum([power(common, b - 1) for common in divisors(M)])


def lot_ledgers(b, many, M):
    """Return how many rows there are for b given places with so many threads of one coat under "all"."""
    if not 1 <= b <= MOST_PLACES:
        raise BadSize(b)
    _check_counts(many, M)
    return _rows_of(b, many, M)


def _joined_up(places, count, rows, found):
    """Return how many ledgers there are for so many places and threads, by the lot of the least place."""
    total = 0
    for b in range(1, places + 1):
        ways = [rows[b - 1][i] * found[places - b][count - i] for i in range(count + 1)]
        total += choose(places - 1, b - 1) * sum(ways)
    return total


def ledger_numbers(n, many, M):
    """Return a list that has for 0 to n places a list of how many ledgers there are, by 0 to many threads."""
    rows = [[_rows_of(b, count, M) for count in range(many + 1)] for b in range(1, n + 1)]
    found = [[1 if count == 0 else 0 for count in range(many + 1)]]
    for places in range(1, n + 1):
        found.append([_joined_up(places, count, rows, found) for count in range(many + 1)])
    return found


def ledgers(n, many, M):
    """Return how many ledgers n places with so many threads of one coat have under "all"."""
    if not 0 <= n <= MOST_PLACES:
        raise BadSize(n)
    _check_counts(many, M)
    return ledger_numbers(n, many, M)[n][many]
