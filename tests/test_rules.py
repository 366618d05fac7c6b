import unittest
from random import Random

from helper import (SIXTY_NINES, all_pairs, frozen, members, no_numbers, see_groups_refused, see_refused, some_number,
                    some_numbers, some_pairs, some_table, spoil, wrong_pairs)
from shareparley.rules import Own, Pairs, Plain, Rule, Votes

WRONG_MANY = [0, -1, -6, 7, 8, 64, SIXTY_NINES, -SIXTY_NINES]
RUNS = 40


def own_sum(numbers, group):
    return sum(numbers[hand] for hand in members(group, len(numbers)))


def pairs_sum(many, pairs, group):
    within = members(group, many)
    total = 0
    for one in within:
        for other in within:
            total += sum(number for first, second, number in pairs if (first, second) == (one, other))
    return total


class RuleCase(unittest.TestCase):
    def see_rule(self, rule, many, words, earn):
        """The rule is for so many hands, has these words, and each group earns what earn tells."""
        self.assertIsInstance(rule, Rule)
        self.assertIs(type(rule.hands()), int)
        self.assertEqual(rule.hands(), many)
        self.assertIs(type(rule.words()), str)
        self.assertEqual(rule.words(), words)
        for group in range(2 ** many):
            told = rule.earn(group)
            self.assertIs(type(told), int)
            self.assertEqual(told, earn(group), group)
        self.assertEqual(rule.earn(0), 0)


class TestRule(RuleCase):
    def test_the_empty_rule(self):
        for many in range(1, 7):
            with self.subTest(many=many):
                self.see_rule(Rule(many), many, "none", lambda group: 0)
                self.assertIs(type(Rule(many)), Rule)

    def test_all_others_are_straight_under_it(self):
        for kind in (Own, Pairs, Votes, Plain):
            with self.subTest(kind=kind.__name__):
                self.assertEqual(kind.__bases__, (Rule,))

    def test_wrong_many(self):
        for place, thing in enumerate(no_numbers() + WRONG_MANY):
            with self.subTest(place=place):
                see_refused(self, "NoRule", Rule, thing)

    def test_wrong_groups(self):
        for many in range(1, 7):
            for rule in (Rule(many), Own([1] * many), Pairs(many, []), Votes(1, 1, [1] * many),
                         Pairs(many, [(one, other, 1) for one, other in all_pairs(many)]),
                         Plain([0] + [1] * (2 ** many - 1))):
                with self.subTest(many=many, kind=type(rule).__name__):
                    see_groups_refused(self, rule.earn, many)


class TestOwn(RuleCase):
    def test_edges(self):
        self.see_rule(Own([7]), 1, "own 7", [0, 7].__getitem__)
        self.see_rule(Own([-7]), 1, "own -7", [0, -7].__getitem__)
        self.see_rule(Own([1, 0, -4]), 3, "own 1 0 -4", [0, 1, 0, 1, -4, -3, -4, -3].__getitem__)
        self.assertEqual(Own([1, 2, 4, 8, 16, 32]).earn(63), 63)
        self.assertEqual(Own([SIXTY_NINES, 1]).earn(3), 10 ** 60)
        self.assertEqual(Own([SIXTY_NINES, -SIXTY_NINES]).words(), "own " + "9" * 60 + " -" + "9" * 60)

    def test_each_group(self):
        for seed in range(RUNS):
            source = Random(seed)
            for many in range(1, 7):
                numbers = some_numbers(source, many)
                with self.subTest(numbers=numbers):
                    words = " ".join(["own"] + [str(number) for number in numbers])
                    self.see_rule(Own(numbers), many, words, lambda group: own_sum(numbers, group))

    def test_wrong_lengths(self):
        for long in (0, 7, 8, 64, 100000):
            with self.subTest(long=long):
                see_refused(self, "NoRule", Own, [0] * long)
                see_refused(self, "NoRule", Own, [None] * long)

    def test_no_numbers(self):
        for place, thing in enumerate(no_numbers()):
            for many in range(1, 7):
                for hand in range(many):
                    with self.subTest(place=place, many=many, hand=hand):
                        see_refused(self, "NoRule", Own, [1] * hand + [thing] + [1] * (many - 1 - hand))
            see_refused(self, "NoRule", Own, [thing] * 6)


class TestPairs(RuleCase):
    def test_edges(self):
        for many in range(1, 7):
            self.see_rule(Pairs(many, []), many, "pairs", lambda group: 0)
        self.see_rule(Pairs(2, [(0, 1, -5)]), 2, "pairs 0-1:-5", [0, 0, 0, -5].__getitem__)
        self.see_rule(Pairs(3, [(1, 2, 4), (0, 2, 1), (0, 1, 0)]), 3, "pairs 0-1:0 0-2:1 1-2:4",
                      [0, 0, 0, 0, 0, 1, 4, 5].__getitem__)
        whole = Pairs(6, [(one, other, 1) for one, other in all_pairs(6)])
        self.assertEqual([whole.earn(group) for group in (1, 3, 7, 15, 31, 63)], [0, 1, 3, 6, 10, 15])

    def test_words_are_sorted_by_hands(self):
        pairs = [(4, 5, -1), (1, 3, 9), (0, 5, 0), (1, 2, 10), (0, 1, SIXTY_NINES), (0, 2, -SIXTY_NINES)]
        words = "pairs 0-1:" + "9" * 60 + " 0-2:-" + "9" * 60 + " 0-5:0 1-2:10 1-3:9 4-5:-1"
        for turned in (pairs, pairs[::-1], sorted(pairs), sorted(pairs, key=lambda pair: pair[2]),
                       pairs[3:] + pairs[:3]):
            with self.subTest(pairs=turned):
                self.assertEqual(Pairs(6, turned).words(), words)

    def test_each_group(self):
        for seed in range(RUNS):
            source = Random(seed)
            for many in range(1, 7):
                pairs = some_pairs(source, many)
                with self.subTest(many=many, pairs=pairs):
                    words = " ".join(["pairs"] + ["%d-%d:%d" % pair for pair in sorted(pairs)])
                    self.see_rule(Pairs(many, pairs), many, words, lambda group: pairs_sum(many, pairs, group))

    def test_wrong_many(self):
        for place, thing in enumerate(no_numbers() + WRONG_MANY):
            with self.subTest(place=place):
                see_refused(self, "NoRule", Pairs, thing, [])
                see_refused(self, "NoRule", Pairs, thing, [(0, 1, 5)])
                see_refused(self, "NoRule", Pairs, thing, [(0, 1, None), ()])

    def test_wrong_pairs(self):
        for many in range(1, 7):
            for place, pairs in enumerate(wrong_pairs(many)):
                with self.subTest(many=many, place=place):
                    see_refused(self, "NoRule", Pairs, many, pairs)


class TestVotes(RuleCase):
    def test_edges(self):
        self.see_rule(Votes(1, 5, [1]), 1, "votes 1 5 1", [0, 5].__getitem__)
        self.see_rule(Votes(1, 5, [0]), 1, "votes 1 5 0", [0, 0].__getitem__)
        self.see_rule(Votes(5, -3, [2, 3, 4]), 3, "votes 5 -3 2 3 4", [0, 0, 0, -3, 0, -3, -3, -3].__getitem__)
        self.see_rule(Votes(6, 1, [2, 3, -4, 4]), 4, "votes 6 1 2 3 -4 4",
                      [0, 0, 0, 0, 0, 0, 0, 0, 0, 1, 1, 1, 0, 0, 0, 0].__getitem__)
        self.see_rule(Votes(1, 0, [9, 9]), 2, "votes 1 0 9 9", lambda group: 0)

    def test_just_the_quota(self):
        for many in range(1, 7):
            whole = 2 ** many - 1
            weights = [10 ** hand for hand in range(many)]
            for great in (1, 10 ** 53):
                total = great * sum(weights)
                scaled = [great * weight for weight in weights]
                with self.subTest(many=many, great=great):
                    self.assertEqual(Votes(total, 7, scaled).earn(whole), 7)
                    self.assertEqual(Votes(total + 1, 7, scaled).earn(whole), 0)
                    self.assertEqual(Votes(max(total - 1, 1), 7, scaled).earn(whole), 7)

    def test_each_group(self):
        for seed in range(RUNS):
            source = Random(seed)
            for many in range(1, 7):
                weights = some_numbers(source, many)
                sums = [own_sum(weights, group) for group in range(2 ** many)]
                quota = max(1, source.choice(sums + [abs(some_number(source))]) + source.choice([-1, 0, 1]))
                prize = some_number(source)
                with self.subTest(quota=quota, prize=prize, weights=weights):
                    words = " ".join(["votes"] + [str(number) for number in [quota, prize] + weights])
                    self.see_rule(Votes(quota, prize, weights), many, words,
                                  lambda group: prize if sums[group] >= quota else 0)

    def test_wrong_quota(self):
        for quota in (0, -1, -SIXTY_NINES):
            with self.subTest(quota=quota):
                see_refused(self, "NoRule", Votes, quota, 1, [1, 1])

    def test_wrong_lengths(self):
        for long in (0, 7, 8, 64, 100000):
            with self.subTest(long=long):
                see_refused(self, "NoRule", Votes, 1, 1, [1] * long)
                see_refused(self, "NoRule", Votes, None, None, [None] * long)

    def test_no_numbers(self):
        for place, thing in enumerate(no_numbers()):
            with self.subTest(place=place):
                see_refused(self, "NoRule", Votes, thing, 1, [1, 2])
                see_refused(self, "NoRule", Votes, 1, thing, [1, 2])
                see_refused(self, "NoRule", Votes, thing, thing, [thing])
                see_refused(self, "NoRule", Votes, 0, thing, [1, 2])
                for many in range(1, 7):
                    for hand in range(many):
                        weights = [1] * hand + [thing] + [1] * (many - 1 - hand)
                        see_refused(self, "NoRule", Votes, 1, 1, weights)


class TestPlain(RuleCase):
    def test_edges(self):
        self.see_rule(Plain([0, 0]), 1, "table 0", [0, 0].__getitem__)
        self.see_rule(Plain([0, -7, 3, 12]), 2, "table -7 3 12", [0, -7, 3, 12].__getitem__)
        self.see_rule(Plain(list(range(64))), 6, "table " + " ".join(map(str, range(1, 64))), lambda group: group)

    def test_each_group(self):
        for seed in range(RUNS):
            source = Random(seed)
            for many in range(1, 7):
                table = some_table(source, many)
                with self.subTest(table=table):
                    words = " ".join(["table"] + [str(number) for number in table[1:]])
                    self.see_rule(Plain(table), many, words, lambda group: table[group])

    def test_no_tables(self):
        for long in list(range(70)) + [127, 128, 100000]:
            if long not in (2, 4, 8, 16, 32, 64):
                with self.subTest(long=long):
                    see_refused(self, "NoTable", Plain, [0] * long)
        for many in range(1, 7):
            rest = [0] * (2 ** many - 1)
            for first in (1, -1, SIXTY_NINES):
                with self.subTest(many=many, first=first):
                    see_refused(self, "NoTable", Plain, [first] + rest)
            for place, thing in enumerate(no_numbers()):
                with self.subTest(many=many, place=place):
                    see_refused(self, "NoTable", Plain, [thing] + rest)
                    see_refused(self, "NoTable", Plain, rest + [thing])
                    see_refused(self, "NoTable", Plain, [0, thing] + rest[1:])


class TestHandedIn(unittest.TestCase):
    def see_kept(self, make, handed):
        """The list stays as it was, and when it is changed the rule stays, as does a second one of the same."""
        before = frozen(handed)
        first = make(handed)
        second = make(list(handed))
        groups = range(2 ** first.hands())
        told = (first.hands(), first.words(), [first.earn(group) for group in groups])
        self.assertEqual(frozen(handed), before)
        spoil(handed)
        for rule in (first, second):
            self.assertEqual((rule.hands(), rule.words(), [rule.earn(group) for group in groups]), told)
        handed.clear()
        for rule in (first, second):
            self.assertEqual((rule.hands(), rule.words(), [rule.earn(group) for group in groups]), told)

    def test_lists_that_are_changed_later(self):
        self.see_kept(Own, [3, -1, 4])
        self.see_kept(lambda pairs: Pairs(3, pairs), [(1, 2, 4), (0, 2, -5), (0, 1, 6)])
        self.see_kept(lambda weights: Votes(4, 9, weights), [3, 2, 1])
        self.see_kept(Plain, [0, 1, 2, 5])

    def test_one_list_for_two_rules(self):
        numbers = [1, 2]
        first = Own(numbers)
        numbers[0] = 10
        second = Own(numbers)
        self.assertEqual((first.earn(3), second.earn(3)), (3, 12))

    def test_what_is_refused_stays(self):
        for call, handed in ((lambda things: Own(things), [1, [2], 3]),
                             (lambda things: Pairs(3, things), [(1, 2, 4), (0, 1, 3), (1, 2, 4)]),
                             (lambda things: Pairs(3, things), [(1, 2, [4]), (0, 1, 3)]),
                             (lambda things: Votes(1, 1, things), [3, None, 1])):
            before = frozen(handed)
            see_refused(self, "NoRule", call, handed)
            self.assertEqual(frozen(handed), before)
        table = [0, 3, [1], 2]
        see_refused(self, "NoTable", Plain, table)
        self.assertEqual(table, [0, 3, [1], 2])

    def test_a_list_of_length_one_to_six_is_any_list(self):
        for many in range(1, 7):
            self.assertEqual(Own([0] * many).hands(), many)
            self.assertEqual(Votes(1, 1, [0] * many).hands(), many)


if __name__ == "__main__":
    unittest.main()
