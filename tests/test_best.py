import unittest
from itertools import combinations
from random import Random

from helper import (SIXTY_NINES, all_pairs, frozen, members, no_numbers, see_groups_refused, see_refused, some_cost,
                    some_pairs, spoil, wrong_pairs)
from shareparley.best import Match, Net
from shareparley.rules import Pairs, Rule


def all_pairings(pairs, within):
    """Each set of the pairs that is a pairing of these hands."""
    usable = [pair for pair in pairs if pair[0] in within and pair[1] in within]
    for many_pairs in range(len(within) // 2 + 1):
        for chosen in combinations(usable, many_pairs):
            hands = [hand for pair in chosen for hand in pair[:2]]
            if len(set(hands)) == len(hands):
                yield chosen


def greatest_sum(pairs, within):
    return max(sum(number for one, other, number in chosen) for chosen in all_pairings(pairs, within))


def is_joined(laid, within):
    """Whether by these ropes each hand is joined to the well, straight or over others."""
    reached = {one for one, other in laid if one == other}
    for again in within:
        for one, other in laid:
            if one in reached or other in reached:
                reached |= {one, other}
    return reached == set(within)


def all_ropes(costs, ropes):
    return [(hand, hand, cost) for hand, cost in enumerate(costs)] + ropes


def least_cost(costs, ropes, within):
    """The least cost of all nets of these hands, each set of as many ropes tried."""
    usable = [rope for rope in all_ropes(costs, ropes) if rope[0] in within and rope[1] in within]
    return min(sum(rope[2] for rope in chosen) for chosen in combinations(usable, len(within))
               if is_joined([rope[:2] for rope in chosen], within))


class BestCase(unittest.TestCase):
    def see_rule(self, rule, many, words):
        self.assertIsInstance(rule, Rule)
        self.assertEqual(type(rule).__bases__, (Rule,))
        self.assertIs(type(rule.hands()), int)
        self.assertEqual(rule.hands(), many)
        self.assertIs(type(rule.words()), str)
        self.assertEqual(rule.words(), words)
        self.assertEqual(rule.earn(0), 0)

    def see_pairs_told(self, told):
        """A sorted list of tuples of two plain ints, each once."""
        self.assertIs(type(told), list)
        for pair in told:
            self.assertIs(type(pair), tuple)
            self.assertEqual([type(hand) for hand in pair], [int, int])
        self.assertEqual(told, sorted(set(told)))

    def see_earn(self, rule, group, wanted):
        told = rule.earn(group)
        self.assertIs(type(told), int)
        self.assertEqual(told, wanted, group)


class TestMatch(BestCase):
    def see_pairing(self, rule, pairs, group):
        """What is told for the group is a pairing of it and has the sum that the group earns."""
        within = members(group, rule.hands())
        told = rule.pairing(group)
        self.see_pairs_told(told)
        hands = [hand for pair in told for hand in pair]
        self.assertEqual(len(set(hands)), len(hands))
        self.assertLessEqual(set(hands), set(within))
        numbers = {(one, other): number for one, other, number in pairs}
        self.assertEqual(sum(numbers[pair] for pair in told), rule.earn(group))

    def see_match(self, many, pairs):
        rule = Match(many, pairs)
        self.see_rule(rule, many, " ".join(["match"] + ["%d-%d:%d" % pair for pair in sorted(pairs)]))
        for group in range(2 ** many):
            self.see_earn(rule, group, greatest_sum(pairs, members(group, many)))
            self.see_pairing(rule, pairs, group)

    def test_edges(self):
        for many in range(1, 7):
            self.see_match(many, [])
            for group in range(2 ** many):
                self.assertEqual(Match(many, []).pairing(group), [])
        self.assertEqual(Match(3, []).words(), "match")
        self.assertEqual(Match(2, [(0, 1, 5)]).pairing(3), [(0, 1)])
        self.assertEqual(Match(2, [(0, 1, 5)]).earn(3), 5)
        self.assertEqual(Match(2, [(0, 1, 5)]).pairing(1), [])
        self.assertEqual(Match(2, [(0, 1, -5)]).pairing(3), [])
        self.assertEqual(Match(2, [(0, 1, -5)]).earn(3), 0)

    def test_the_greatest_number_is_not_always_in_it(self):
        rule = Match(4, [(1, 2, 5), (2, 3, 3), (0, 1, 3)])
        self.assertEqual(rule.pairing(15), [(0, 1), (2, 3)])
        self.assertEqual(rule.earn(15), 6)
        self.assertEqual(rule.pairing(6), [(1, 2)])
        rule = Match(4, [(1, 2, 7), (2, 3, 3), (0, 1, 3)])
        self.assertEqual(rule.pairing(15), [(1, 2)])
        self.assertEqual(rule.earn(15), 7)

    def test_three_pairs_of_six_hands(self):
        rule = Match(6, [(0, 3, 1), (2, 4, 1), (1, 5, 1), (0, 1, 1), (3, 4, 1)])
        self.assertEqual(rule.earn(63), 3)
        self.assertEqual(rule.pairing(63), [(0, 3), (1, 5), (2, 4)])
        self.assertEqual(rule.words(), "match 0-1:1 0-3:1 1-5:1 2-4:1 3-4:1")

    def test_all_signs_of_four_hands(self):
        for code in range(3 ** 6):
            numbers = [code // 3 ** place % 3 - 1 for place in range(6)]
            pairs = [(one, other, number) for (one, other), number in zip(all_pairs(4), numbers)]
            rule = Match(4, pairs)
            with self.subTest(pairs=pairs):
                self.see_earn(rule, 15, greatest_sum(pairs, [0, 1, 2, 3]))
                self.see_pairing(rule, pairs, 15)

    def test_each_group(self):
        for seed in range(40):
            source = Random(seed)
            for many in range(1, 7):
                pairs = some_pairs(source, many)
                with self.subTest(many=many, pairs=pairs):
                    self.see_match(many, pairs)

    def test_whole_sets_of_pairs(self):
        for seed in range(10):
            source = Random(seed)
            for bound in (2, 9, SIXTY_NINES):
                pairs = [(one, other, source.randint(-bound // 4, bound)) for one, other in all_pairs(6)]
                source.shuffle(pairs)
                with self.subTest(pairs=pairs):
                    self.see_match(6, pairs)

    def test_wrong_many(self):
        for place, thing in enumerate(no_numbers() + [0, -1, 7, 8, SIXTY_NINES, -SIXTY_NINES]):
            with self.subTest(place=place):
                see_refused(self, "NoRule", Match, thing, [])
                see_refused(self, "NoRule", Match, thing, [(0, 1, 5)])
                see_refused(self, "NoRule", Match, thing, [(0, 1, None), ()])

    def test_wrong_pairs(self):
        for many in range(1, 7):
            for place, pairs in enumerate(wrong_pairs(many)):
                with self.subTest(many=many, place=place):
                    see_refused(self, "NoRule", Match, many, pairs)

    def test_wrong_groups(self):
        for many in range(1, 7):
            for pairs in ([], [(one, other, 1) for one, other in all_pairs(many)]):
                with self.subTest(many=many, pairs=pairs):
                    see_groups_refused(self, Match(many, pairs).earn, many)
                    see_groups_refused(self, Match(many, pairs).pairing, many)


class TestNet(BestCase):
    def see_net(self, rule, costs, ropes, group):
        """What is told for the group is a net of it and costs what the group earns, taken below 0."""
        within = members(group, rule.hands())
        told = rule.net(group)
        self.see_pairs_told(told)
        self.assertEqual(len(told), len(within))
        self.assertLessEqual({hand for rope in told for hand in rope}, set(within))
        self.assertTrue(is_joined(told, within))
        cost = {(one, other): number for one, other, number in all_ropes(costs, ropes)}
        self.assertEqual(-sum(cost[rope] for rope in told), rule.earn(group))

    def see_each_net(self, costs, ropes):
        many = len(costs)
        rule = Net(costs, ropes)
        words = ["net"] + [str(cost) for cost in costs] + ["%d-%d:%d" % rope for rope in sorted(ropes)]
        self.see_rule(rule, many, " ".join(words))
        for group in range(2 ** many):
            self.see_net(rule, costs, ropes, group)
        return rule

    def see_least(self, costs, ropes):
        rule = self.see_each_net(costs, ropes)
        for group in range(2 ** len(costs)):
            self.see_earn(rule, group, -least_cost(costs, ropes, members(group, len(costs))))

    def test_edges(self):
        rule = Net([7], [])
        self.assertEqual((rule.earn(0), rule.earn(1)), (0, -7))
        self.assertEqual((rule.net(0), rule.net(1)), ([], [(0, 0)]))
        self.assertEqual(rule.words(), "net 7")
        rule = Net([3, 9], [(0, 1, 4)])
        self.assertEqual([rule.earn(group) for group in range(4)], [0, -3, -9, -7])
        self.assertEqual(rule.net(2), [(1, 1)])
        self.assertEqual(rule.net(3), [(0, 0), (0, 1)])
        self.assertEqual(rule.words(), "net 3 9 0-1:4")
        self.assertEqual(Net([0, 0], [(0, 1, 0)]).earn(3), 0)

    def test_no_ropes_between_hands(self):
        for many in range(1, 7):
            costs = [10 ** hand for hand in range(many)]
            self.see_least(costs, [])
            self.assertEqual(Net(costs, []).net(2 ** many - 1), [(hand, hand) for hand in range(many)])

    def test_over_others(self):
        ropes = [(0, 3, 1), (1, 3, 1), (1, 5, 1), (2, 5, 1), (2, 4, 1)]
        rule = Net([100, 100, 100, 100, 5, 100], ropes)
        self.assertEqual(rule.net(63), [(0, 3), (1, 3), (1, 5), (2, 4), (2, 5), (4, 4)])
        self.assertEqual(rule.earn(63), -10)
        self.assertEqual(rule.earn(47), -104)
        self.assertEqual(rule.net(16 + 1), [(0, 0), (4, 4)])

    def test_a_hand_outside_is_not_gone_over(self):
        rule = Net([50, 1, 50], [(0, 1, 1), (1, 2, 1), (0, 2, 60)])
        self.assertEqual(rule.net(5), [(0, 0), (2, 2)])
        self.assertEqual(rule.earn(5), -100)
        self.assertEqual(rule.earn(7), -3)

    def test_all_small_costs_of_three_hands(self):
        for code in range(3 ** 6):
            numbers = [code // 3 ** place % 3 for place in range(6)]
            ropes = [(one, other, number) for (one, other), number in zip(all_pairs(3), numbers[3:])]
            with self.subTest(numbers=numbers):
                self.see_least(numbers[:3], ropes)

    def test_each_group_of_small_companies(self):
        for seed in range(40):
            source = Random(seed)
            for many in range(1, 5):
                costs = [some_cost(source) for hand in range(many)]
                ropes = some_pairs(source, many, some_cost)
                with self.subTest(costs=costs, ropes=ropes):
                    self.see_least(costs, ropes)

    def test_each_group_of_five_and_six_hands(self):
        for seed, many in ((1, 5), (2, 5), (3, 5), (4, 5), (5, 5), (6, 6), (7, 6)):
            source = Random(seed)
            for bound in (9, SIXTY_NINES):
                costs = [source.randint(bound // 2, bound) for hand in range(many)]
                ropes = [(one, other, source.randint(0, bound)) for one, other in all_pairs(many)]
                source.shuffle(ropes)
                if many == 6:
                    ropes = ropes[:8]
                with self.subTest(costs=costs, ropes=ropes):
                    self.see_least(costs, ropes)

    def test_whole_sets_of_ropes_are_nets(self):
        for seed in range(20):
            source = Random(seed)
            for many in (5, 6):
                costs = [some_cost(source) for hand in range(many)]
                ropes = [(one, other, some_cost(source)) for one, other in all_pairs(many)]
                with self.subTest(costs=costs, ropes=ropes):
                    self.see_each_net(costs, ropes)

    def test_wrong_costs(self):
        for long in (0, 7, 8, 64, 100000):
            with self.subTest(long=long):
                see_refused(self, "NoRule", Net, [1] * long, [])
                see_refused(self, "NoRule", Net, [None] * long, [()])
        for many in range(1, 7):
            for hand in range(many):
                for place, thing in enumerate(no_numbers() + [-1, -SIXTY_NINES]):
                    with self.subTest(many=many, hand=hand, place=place):
                        costs = [1] * hand + [thing] + [1] * (many - 1 - hand)
                        see_refused(self, "NoRule", Net, costs, [])
                        see_refused(self, "NoRule", Net, costs, [(0, 1, thing)])

    def test_wrong_ropes(self):
        for many in range(1, 7):
            for place, ropes in enumerate(wrong_pairs(many)):
                with self.subTest(many=many, place=place):
                    see_refused(self, "NoRule", Net, [1] * many, ropes)
            for one, other in all_pairs(many):
                for cost in (-1, -7, -SIXTY_NINES):
                    with self.subTest(one=one, other=other, cost=cost):
                        see_refused(self, "NoRule", Net, [1] * many, [(one, other, cost)])
                        self.assertEqual(Match(many, [(one, other, cost)]).hands(), many)
            see_refused(self, "NoRule", Net, [1] * many, [(0, 0, 1)])
        see_refused(self, "NoRule", Net, [1] * 3, [(0, 1, 1), (1, 2, -1), (0, 2, 1)])

    def test_wrong_groups(self):
        for many in range(1, 7):
            rule = Net([1] * many, [(one, other, 1) for one, other in all_pairs(many)])
            with self.subTest(many=many):
                see_groups_refused(self, rule.earn, many)
                see_groups_refused(self, rule.net, many)


class TestLists(unittest.TestCase):
    def answers(self, rule, tell):
        groups = range(2 ** rule.hands())
        earned = [rule.earn(group) for group in groups]
        return (rule.hands(), rule.words(), earned, [frozen(tell(rule, group)) for group in groups])

    def see_kept(self, make, handed, tell):
        """No list handed in and no list told changes an answer of this rule or of another one."""
        before = frozen(handed)
        first = make(*handed)
        second = make(*handed)
        wanted = self.answers(first, tell)
        self.assertEqual(frozen(handed), before)
        for group in range(2 ** first.hands()):
            told = tell(first, group)
            kept = tell(first, group)
            wanted_told = frozen(kept)
            spoil(told)
            self.assertEqual(frozen(kept), wanted_told)
            told.clear()
        self.assertEqual(self.answers(first, tell), wanted)
        self.assertEqual(self.answers(second, tell), wanted)
        self.assertEqual(self.answers(make(*handed), tell), wanted)
        for thing in handed:
            if isinstance(thing, list):
                spoil(thing)
        self.assertEqual(self.answers(first, tell), wanted)
        self.assertEqual(self.answers(second, tell), wanted)

    def test_match(self):
        for pairs in ([], [(1, 3, 5), (0, 2, 4), (0, 1, -7), (1, 2, 0)]):
            self.see_kept(Match, [4, pairs], lambda rule, group: rule.pairing(group))

    def test_net(self):
        for ropes in ([], [(1, 3, 5), (0, 2, 4), (0, 1, 7), (1, 2, 0)]):
            self.see_kept(Net, [[5, 0, 9, 3], ropes], lambda rule, group: rule.net(group))

    def test_one_list_for_several_rules(self):
        pairs = [(1, 2, 4), (0, 1, 3)]
        first = Match(3, pairs)
        pairs[0] = (1, 2, 1)
        second = Match(3, pairs)
        third = Net([9, 9, 9], pairs)
        pairs.append((0, 2, 100))
        self.assertEqual((first.earn(7), second.earn(7), third.earn(7)), (4, 3, -13))
        self.assertEqual(Pairs(3, pairs).earn(7), 104)

    def test_what_is_refused_stays(self):
        for call, handed in ((lambda things: Match(3, things), [(1, 2, 4), (0, 1, 3), (1, 2, 4)]),
                             (lambda things: Net([1, 2, 3], things), [(1, 2, [4]), (0, 1, 3)]),
                             (lambda things: Net(things, []), [3, [2], 1])):
            before = frozen(handed)
            see_refused(self, "NoRule", call, handed)
            self.assertEqual(frozen(handed), before)


if __name__ == "__main__":
    unittest.main()
