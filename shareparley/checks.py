"""Whether a thing is a number, asked wherever whatever thing may be handed in."""


def is_number(thing):
    # Python counts True and False among its ints; here they are truths and never numbers.
    return isinstance(thing, int) and not isinstance(thing, bool)


def is_number_within(thing, least, most):
    return is_number(thing) and least <= thing <= most
