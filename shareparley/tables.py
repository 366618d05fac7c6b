"""Tables: lists that tell, for each group, at the place that is its number, what it earns."""

from shareparley.checks import is_number
from shareparley.errors import NoTable

# At the place that is a number of hands, how long a table of so many is; no table is one of no hands.
LENGTHS = (1, 2, 4, 8, 16, 32, 64)


def is_table(thing):
    if not isinstance(thing, list) or len(thing) not in LENGTHS[1:]:
        return False
    # Only what is known to be a number is compared: another thing could fail at it.
    return all([is_number(number) for number in thing]) and thing[0] == 0


def hands_in(table):
    if not is_table(table):
        raise NoTable("a table must be a list of 2, 4, 8, 16, 32 or 64 whole numbers, the first of them 0")
    return LENGTHS.index(len(table))
