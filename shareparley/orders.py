"""Orders: what the hands add as they come one by one, on the mean and by each group; hands alike and idle."""

from shareparley.checks import is_number_within
from shareparley.dividends import dividends
from shareparley.errors import NoOrder
from shareparley.fractions import fraction
from shareparley.groups import ALONE, hands_of
from shareparley.tables import hands_in

# Each number of hands, one to six, goes into it evenly.
EVENLY = 60


def is_order(order, many):
    # Only what is known to be a number is sorted: another thing could fail at it.
    if not isinstance(order, list) or not all([is_number_within(hand, 0, many - 1) for hand in order]):
        return False
    return sorted(order) == list(range(many))


def order_shares(table, order):
    many = hands_in(table)
    if not is_order(order, many):
        raise NoOrder("an order must be a list of all hands, each once")
    shares = [0] * many
    ahead = 0
    for hand in order:
        shares[hand] = table[ahead + ALONE[hand]] - table[ahead]
        ahead += ALONE[hand]
    return shares


def mean_share(parting, hand):
    # The dividends of the hand's groups, each parted evenly among the group's hands, are its mean share.
    total = 0
    for group, dividend in enumerate(parting):
        if group & ALONE[hand] != 0:
            total += dividend * (EVENLY // len(hands_of(group)))
    return fraction(total, EVENLY)


def mean_shares(table):
    many = hands_in(table)
    parting = dividends(table)
    return [mean_share(parting, hand) for hand in range(many)]


def groups_without(table, hands):
    return [group for group in range(len(table)) if group & hands == 0]


def added_by(table, hand):
    """For each group without the hand what it earns with the hand put to it, less what it earns without."""
    alone = ALONE[hand]
    return [table[group + alone] - table[group] for group in groups_without(table, alone)]


def turns(table):
    return [sum(added_by(table, hand)) for hand in range(hands_in(table))]


def are_alike(table, one, other):
    if one == other:
        return True
    first = ALONE[one]
    second = ALONE[other]
    return all([table[group + first] == table[group + second] for group in groups_without(table, first + second)])


def least_alike(table, hand):
    return min([one for one in range(hand + 1) if are_alike(table, one, hand)])


def alike(table):
    return [least_alike(table, hand) for hand in range(hands_in(table))]


def idle(table):
    many = hands_in(table)
    return [hand for hand in range(many) if not any([added != 0 for added in added_by(table, hand)])]


def swells(table):
    hands_in(table)
    for one in range(len(table)):
        for other in range(one):
            if table[one] + table[other] > table[one | other] + table[one & other]:
                return (other, one)
    return None
