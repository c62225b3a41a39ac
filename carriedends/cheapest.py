"""Least prices of runs of slides."""

from heapq import heappop, heappush

from carriedends.errors import BadPrice
from carriedends.forms import is_number
from carriedends.ledger import check_alike
from carriedends.searching import check_pair, slid

GREATEST_PRICE = 99


def _check_prices(coats, prices):
    """Raise the BadPrice that is due unless there is a price for each coat."""
    if len(prices) != coats:
        raise BadPrice(len(prices))
    for index, price in enumerate(prices):
        if not is_number(price) or not 1 <= price <= GREATEST_PRICE:
            raise BadPrice(index)


def _least_cost(web, goal, prices):
    """Return the least cost of slides that lead from a web to other bundles of its class."""
    costs = {web.bundles: 0}
    waiting = [(0, web.bundles)]
    cost, bundles = heappop(waiting)
    while bundles != goal:
        for slide, after in slid(web, bundles):
            price = cost + prices[slide[4]]
            if after not in costs or price < costs[after]:
                costs[after] = price
                heappush(waiting, (price, after))
        cost, bundles = heappop(waiting)
    return cost


def cheapest(one, other, prices):
    """Return the least cost of slides from one web to another; a slide costs the price of the coat it carries."""
    check_alike(one, other)
    _check_prices(one.coats, prices)
    check_pair(one, other)
    return _least_cost(one, other.bundles, prices)
