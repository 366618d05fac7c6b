"""Rules: each is made for one to six hands and tells what each group of them earns."""

from shareparley.checks import check_many, is_number
from shareparley.errors import NoRule
from shareparley.groups import ALONE, check_group, hands_of
from shareparley.tables import hands_in


def check_numbers(things):
    if not all([is_number(thing) for thing in things]):
        raise NoRule("something is no whole number")


def check_pair(many, pair):
    if not isinstance(pair, tuple) or len(pair) != 3:
        raise NoRule("a pair must be a tuple of two hands and a number")
    check_numbers(pair)
    if not 0 <= pair[0] < pair[1] < many:
        raise NoRule("a pair must be of two hands, the lesser one first")


# A list of its own, so that the asker's list can be changed without changing the rule.
def sorted_pairs(many, pairs):
    seen = {}
    for pair in pairs:
        check_pair(many, pair)
        hands = (pair[0], pair[1])
        if hands in seen:
            raise NoRule("a pair is there twice")
        seen[hands] = True
    return sorted(pairs)


def has_both(group, one, other):
    both = ALONE[one] | ALONE[other]
    return group & both == both


def sum_of_hands(numbers, group):
    return sum([numbers[hand] for hand in hands_of(group)])


def number_words(numbers):
    return [str(number) for number in numbers]


def pair_words(pairs):
    return [f"{one}-{other}:{number}" for one, other, number in pairs]


class Rule:
    def __init__(self, many):
        check_many(many)
        self.many = many

    def hands(self):
        return self.many

    def earn(self, group):
        check_group(group, self.many)
        return self.reckon(group)

    # What a kind of rule earns for a group is said here, so that the refusal stands in one place.
    def reckon(self, group):
        return 0

    def words(self):
        return "none"


class Own(Rule):
    def __init__(self, numbers):
        Rule.__init__(self, len(numbers))
        check_numbers(numbers)
        self.numbers = list(numbers)

    def reckon(self, group):
        return sum_of_hands(self.numbers, group)

    def words(self):
        return " ".join(["own"] + number_words(self.numbers))


class Pairs(Rule):
    def __init__(self, many, pairs):
        Rule.__init__(self, many)
        self.pairs = sorted_pairs(many, pairs)

    def reckon(self, group):
        return sum([number for one, other, number in self.pairs if has_both(group, one, other)])

    def words(self):
        return " ".join(["pairs"] + pair_words(self.pairs))


class Votes(Rule):
    def __init__(self, quota, prize, weights):
        Rule.__init__(self, len(weights))
        check_numbers([quota, prize])
        check_numbers(weights)
        if quota < 1:
            raise NoRule("the quota must be 1 or more")
        self.quota = quota
        self.prize = prize
        self.weights = list(weights)

    def reckon(self, group):
        return self.prize if sum_of_hands(self.weights, group) >= self.quota else 0

    def words(self):
        return " ".join(["votes"] + number_words([self.quota, self.prize] + self.weights))


class Plain(Rule):
    def __init__(self, table):
        Rule.__init__(self, hands_in(table))
        self.earnings = list(table)

    def reckon(self, group):
        return self.earnings[group]

    def words(self):
        # Nobody's nought goes without saying in a text.
        return " ".join(["table"] + number_words(self.earnings[1:]))
