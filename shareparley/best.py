"""Rules that seek a best one: the pairing of greatest sum, the net of least cost."""

from shareparley.errors import NoRule
from shareparley.groups import ALONE, check_group, hands_of, whole_company
from shareparley.rules import Rule, check_numbers, has_both, number_words, pair_words, sorted_pairs

# The well stands among the ends of ropes as if it were a hand behind the six.
WELL = 64


def best_of_group(best, pairs, group):
    # The group's least hand stays without a pair or is the lesser hand of one; both leave a lesser group,
    # whose best is known. So the pairs of a pairing come sorted, too.
    least = hands_of(group)[0]
    found = best[group - ALONE[least]]
    for one, other, number in pairs:
        if one == least and has_both(group, one, other):
            rest = best[group - ALONE[one] - ALONE[other]]
            if number + rest[0] > found[0]:
                found = (number + rest[0], ((one, other),) + rest[1])
    return found


def best_pairings(many, pairs):
    """For each group the greatest sum that a pairing of it has, and a pairing that has it."""
    best = [(0, ())]
    for group in range(1, whole_company(many) + 1):
        best.append(best_of_group(best, pairs, group))
    return best


class Match(Rule):
    def __init__(self, many, pairs):
        Rule.__init__(self, many)
        self.pairs = sorted_pairs(many, pairs)
        self.best = best_pairings(many, self.pairs)

    def reckon(self, group):
        return self.best[group][0]

    def pairing(self, group):
        check_group(group, self.many)
        return list(self.best[group][1])

    def words(self):
        return " ".join(["match"] + pair_words(self.pairs))


def check_costs(costs):
    check_numbers(costs)
    if any([cost < 0 for cost in costs]):
        raise NoRule("a cost must be 0 or more")


def cost_of(rope):
    return rope[2]


def ends_of(rope):
    # A hand's rope to the well is told with the hand twice.
    if rope[0] == rope[1]:
        return ALONE[rope[0]] | WELL
    return ALONE[rope[0]] | ALONE[rope[1]]


def joins_on(rope, joined, ground):
    ends = ends_of(rope)
    return ends & ground == ends and ends & joined != 0 and ends & joined != ends


def least_net(ropes, group):
    # The cheapest rope from what is joined already to what isn't stands in some net of least cost,
    # and there is always one, since each hand has a rope to the well.
    ground = group | WELL
    joined = WELL
    laid = []
    while joined != ground:
        rope = min([each for each in ropes if joins_on(each, joined, ground)], key=cost_of)
        laid.append(rope)
        joined = joined | ends_of(rope)
    return laid


class Net(Rule):
    def __init__(self, costs, ropes):
        Rule.__init__(self, len(costs))
        check_costs(costs)
        self.costs = list(costs)
        self.ropes = sorted_pairs(self.many, ropes)
        check_costs([cost_of(rope) for rope in self.ropes])

    def least(self, group):
        to_the_well = [(hand, hand, cost) for hand, cost in enumerate(self.costs)]
        return least_net(to_the_well + self.ropes, group)

    def reckon(self, group):
        return -sum([cost_of(rope) for rope in self.least(group)])

    def net(self, group):
        check_group(group, self.many)
        return sorted([(rope[0], rope[1]) for rope in self.least(group)])

    def words(self):
        return " ".join(["net"] + number_words(self.costs) + pair_words(self.ropes))
