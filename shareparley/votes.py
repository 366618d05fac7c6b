"""Who decides: weights and a quota that tell who wins, or an exchange by which no weights can."""

from shareparley.errors import NoVotes
from shareparley.fractions import common_bottom, tops_over
from shareparley.groups import marks_of
from shareparley.tables import hands_in
from shareparley.weighing import weigh


def check_votes(table):
    if not all([number in (0, 1) for number in table]):
        raise NoVotes("each number in the table must be 0 or 1")


def column_of(group, wins, many):
    """The group's weight less the quota, or, where it loses, the quota less its weight, as a column."""
    column = marks_of(group, many) + [-1]
    return column if wins else [-number for number in column]


def with_times(groups, times):
    return [(group, times[group]) for group in groups if times[group] != 0]


def weights_for(table):
    many = hands_in(table)
    check_votes(table)
    groups = list(range(len(table)))
    columns = [column_of(group, table[group] == 1, many) for group in groups]
    # A losing group must stay under the quota by 1 at least, a winning one need only come to it.
    gains = [1 - earning for earning in table]
    # All weights 0 meet due, so there is a best, with prices for the weights and the quota, or a way without end.
    told = weigh(columns, [0] * (many + 1), gains)
    numbers = tops_over(common_bottom(told[2]), told[2])
    if told[0] == "best":
        return ("weights", numbers[many], numbers[:many])
    winners = [group for group in groups if table[group] == 1]
    losers = [group for group in groups if table[group] == 0]
    return ("exchange", with_times(winners, numbers), with_times(losers, numbers))
