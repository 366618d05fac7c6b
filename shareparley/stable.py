"""Stable shares: shares that no group can better, and which groups can."""

from shareparley.errors import NoShares
from shareparley.fractions import is_fraction, plus, under
from shareparley.groups import hands_of, marks_of, whole_company
from shareparley.tables import hands_in
from shareparley.weighing import weigh


def check_shares(shares, many):
    if not isinstance(shares, list) or len(shares) != many or not all([is_fraction(share) for share in shares]):
        raise NoShares("shares must be a list of fractions, one for each hand")


def share_of(group, shares):
    total = (0, 1)
    for hand in hands_of(group):
        total = plus(total, shares[hand])
    return total


def bettering(table, shares):
    many = hands_in(table)
    check_shares(shares, many)
    return [group for group, earning in enumerate(table) if under(share_of(group, shares), (earning, 1))]


def stable(table):
    many = hands_in(table)
    whole = whole_company(many)
    groups = list(range(1, whole + 1))
    columns = [marks_of(group, many) for group in groups]
    # The whole company with weight 1 meets due, and no weight goes beyond 1: so there is always a best.
    told = weigh(columns, [1] * many, table[1:])
    weights = told[1]
    prices = told[2]
    # By the prices no group can better; they are shares of the company where they do not come to more than it earns.
    if share_of(whole, prices) == (table[whole], 1):
        return ("shares", prices)
    return ("weighing", [(group, weight) for group, weight in zip(groups, weights) if weight != (0, 1)])
