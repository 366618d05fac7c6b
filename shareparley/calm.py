"""Calm shares: the least contented groups are as contented as can be, and then the next ones, in turn."""

from shareparley.fractions import common_bottom, fraction, minus, plus, tops_over
from shareparley.groups import ALONE, hands_of, marks_of, whole_company
from shareparley.tables import hands_in
from shareparley.weighing import weigh


def below_nought(column):
    return [-number for number in column]


def rest_of(row, rows):
    """What is left of a row beyond the rows, each of which has 0 where one ahead of it has its first other number."""
    rest = row
    for lead in rows:
        place = [number != 0 for number in lead].index(True)
        factor = rest[place]
        rest = [number * lead[place] - other * factor for number, other in zip(rest, lead)]
    return rest


def untold(groups, kept, many):
    """Of the groups those whose shares the kept groups do not tell."""
    rows = []
    for group in kept:
        rows.append(rest_of(marks_of(group, many), rows))
    nothing = [0] * many
    return [group for group in groups if rest_of(marks_of(group, many), rows) != nothing]


def sifted(groups, many):
    """Of the groups those whose shares the ones ahead of them do not tell."""
    found = []
    for group in groups:
        found += untold([group], found, many)
    return found


def least_lack(table, many, kept, free):
    """Shares by which the greatest lack of the free groups is least, this lack, and the groups that hold it there."""
    bottom = common_bottom(list(kept.values()))
    columns = [marks_of(group, many) + [1] for group in free]
    gains = [table[group] * bottom for group in free]
    for group, top in zip(list(kept), tops_over(bottom, list(kept.values()))):
        column = marks_of(group, many) + [0]
        columns += [column, below_nought(column)]
        gains += [top, -top]
    # A free group and all others without it are both free, so they never all gain at once: there is a best.
    told = weigh(columns, [0] * many + [1], gains)
    prices = [fraction(price[0], price[1] * bottom) for price in told[2]]
    holding = [group for group, weight in zip(free, told[1]) if weight != (0, 1)]
    return (prices[:many], prices[many], holding)


def calm_shares(table, many):
    whole = whole_company(many)
    kept = {whole: (table[whole], 1)}
    shares = [(table[whole], 1)]
    free = untold(list(range(1, whole)), list(kept), many)
    while len(free) > 0:
        found = least_lack(table, many, kept, free)
        shares = found[0]
        for group in found[2]:
            if len(untold([group], list(kept), many)) > 0:
                kept[group] = minus((table[group], 1), found[1])
        free = untold(free, list(kept), many)
    # By now the kept groups tell all shares, and the last ones found give each of them what it must have.
    return shares


def weighing_of(groups, many):
    """A weighing of just these groups, the least weight as great as can be."""
    marks = [marks_of(group, many) for group in groups]
    # The first column is the weight that all the groups have at least, the others what each has beyond it.
    together = [sum([mark[hand] for mark in marks]) for hand in range(many)]
    told = weigh([together] + marks, [1] * many, [1] + [0] * len(groups))
    least = told[1][0]
    return [(group, plus(least, more)) for group, more in zip(groups, told[1][1:])]


def lacks_of(table, tops, bottom):
    """For each group but nobody and the whole company what it lacks, over the bottom."""
    lacks = {}
    for group in range(1, len(table) - 1):
        lacks[group] = table[group] * bottom - sum([tops[hand] for hand in hands_of(group)])
    return lacks


def levels_of(table, many, shares):
    """The levels, and the groups by which there are keys."""
    bottom = common_bottom(shares)
    lacks = lacks_of(table, tops_over(bottom, shares), bottom)
    levels = []
    telling = [whole_company(many)]
    for lack in reversed(sorted(set(list(lacks.values())))):
        if len(telling) == many:
            break
        groups = [group for group in lacks if lacks[group] >= lack]
        levels.append((fraction(lack, bottom), weighing_of(groups, many)))
        # The groups of a weighing tell the whole company's share by their own, so it is not wanted beside them.
        telling = sifted(groups, many)
    return (levels, telling)


def key_of(hand, groups, many):
    columns = []
    for group in groups:
        column = marks_of(group, many)
        columns += [column, below_nought(column)]
    weights = weigh(columns, marks_of(ALONE[hand], many), [0] * len(columns))[1]
    factors = [minus(weights[2 * place], weights[2 * place + 1]) for place in range(len(groups))]
    return [(group, factor) for group, factor in zip(groups, factors) if factor != (0, 1)]


def calm(table):
    many = hands_in(table)
    shares = calm_shares(table, many)
    told = levels_of(table, many, shares)
    return (shares, told[0], [key_of(hand, told[1], many) for hand in range(many)])
