"""Dividends: what each group adds beyond its lesser parts, and the table that such numbers make."""

from shareparley.groups import parts_of, whole_company
from shareparley.tables import hands_in


def sum_of_parts(numbers, group):
    return sum([numbers[part] for part in parts_of(group)])


def earned(table):
    whole = whole_company(hands_in(table))
    return [sum_of_parts(table, group) for group in range(whole + 1)]


def dividends(table):
    whole = whole_company(hands_in(table))
    told = [0] * (whole + 1)
    # All lesser parts of a group have lesser numbers, and its own place still holds nought.
    for group in range(whole + 1):
        told[group] = table[group] - sum_of_parts(told, group)
    return told
