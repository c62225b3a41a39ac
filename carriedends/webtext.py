"""Texts of webs."""

from carriedends.errors import BadText, Wide
from carriedends.webs import Web, counted, handy, is_bundle, is_frame, too_much
from carriedends.words import read_numbers, read_row, row_of


def text_of_web(web):
    """Return the text of a web."""
    if not handy(web):
        raise Wide(0)
    rows = [row_of(("web", web.n, web.wheel, web.coats, web.rule))]
    rows.extend([row_of(("thread", *bundle)) for bundle in web.bundles])
    return "\n".join(rows)


def _frame_of(row):
    """Return places, wheel, coats and rule that the first row of a text tells."""
    words = row.split(" ")
    numbers = read_numbers(words[1:4], ())
    if words[0] != "web" or len(words) != 5 or numbers is None:
        raise BadText(0)
    n, wheel, coats = numbers
    rule = words[4]
    if not is_frame(n, wheel, coats, rule):
        raise BadText(0)
    return (n, wheel, coats, rule)


def web_of(text):
    """Return the web that a text tells."""
    rows = text.split("\n")
    n, wheel, coats, rule = _frame_of(rows[0])
    bundles = []
    for index, row in enumerate(rows[1:], start=1):
        bundle = read_row(row, "thread", 5, (2,))
        if not is_bundle(bundle, n, wheel, coats) or (bundles and bundles[-1][:4] >= bundle[:4]):
            raise BadText(index)
        bundles.append(bundle)
    if too_much(counted(bundles)):
        raise BadText(len(rows))
    return Web(n, wheel, coats, rule, tuple(bundles))
