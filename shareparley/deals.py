"""Deals: tables summed, put side by side, cut, merged, turned about."""

from shareparley.checks import is_number_within
from shareparley.errors import NoGroup, TooMany, Unlike
from shareparley.groups import ALONE, hands_of, parts_of, whole_company
from shareparley.tables import hands_in


def summed(one, other):
    if hands_in(one) != hands_in(other):
        raise Unlike("the tables must be of equally many hands")
    return [first + second for first, second in zip(one, other)]


def beside(one, other):
    if hands_in(one) + hands_in(other) > len(ALONE):
        raise TooMany("there must be at most six hands together")
    long = len(one)
    return [one[group % long] + other[group // long] for group in range(long * len(other))]


def check_some_group(table, group):
    if not is_number_within(group, 1, whole_company(hands_in(table))):
        raise NoGroup("a group must be a whole number from 1 to the whole company's")


# The parts of a group, rising, come just in the order that their groups have when its hands are numbered anew.
def cut(table, group):
    check_some_group(table, group)
    return [table[part] for part in parts_of(group)]


def merged(table, group):
    check_some_group(table, group)
    # The group's least hand stays and stands for the whole of it.
    least = ALONE[hands_of(group)[0]]
    staying = whole_company(hands_in(table)) - group + least
    return [table[part | group] if part & least != 0 else table[part] for part in parts_of(staying)]


def turned(table):
    whole = whole_company(hands_in(table))
    return [table[whole] - table[whole - group] for group in range(whole + 1)]
