"""Groups of hands as whole numbers: 1 for hand 0, 2 for hand 1, 4 for hand 2, and so on, added."""

from shareparley.checks import is_number_within
from shareparley.errors import NoGroup

# For each hand, at the place that is its number, the group of it alone.
ALONE = (1, 2, 4, 8, 16, 32)


def whole_company(many):
    return sum(ALONE[:many])


def check_group(group, many):
    if not is_number_within(group, 0, whole_company(many)):
        raise NoGroup("a group must be a whole number from 0 to the whole company's")


def hands_of(group):
    check_group(group, len(ALONE))
    return [hand for hand in range(len(ALONE)) if group & ALONE[hand] != 0]


def marks_of(group, many):
    """For each of so many hands 1 where it is in the group, else 0."""
    return [1 if group & ALONE[hand] != 0 else 0 for hand in range(many)]


def parts_of(group):
    check_group(group, len(ALONE))
    return [part for part in range(group + 1) if part & group == part]


def group_of(hands):
    group = 0
    for hand in hands:
        if not is_number_within(hand, 0, len(ALONE) - 1):
            raise NoGroup("a hand must be a whole number from 0 to 5")
        if group & ALONE[hand] != 0:
            raise NoGroup("a hand stands in the list twice")
        group += ALONE[hand]
    return group
