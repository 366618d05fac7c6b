"""What is asked wherever whatever thing may be handed in: whether it is a number, and of how many hands."""

from shareparley.errors import NoRule


def is_number(thing):
    # Python counts True and False among its ints; here they are truths and never numbers.
    return isinstance(thing, int) and not isinstance(thing, bool)


def is_number_within(thing, least, most):
    return is_number(thing) and least <= thing <= most


def check_many(many):
    if not is_number_within(many, 1, 6):
        raise NoRule("there must be one to six hands")
