"""What the document promises over the whole program: how the modules' answers stand to one another."""

import unittest
from fractions import Fraction
from itertools import permutations
from random import Random

from helper import (EndingCase, all_pairs, hands_within, members, see_fractions, see_weighing, shares_by_group,
                    some_table, some_tables, table_by)
from shareparley.best import Match, Net
from shareparley.calm import calm
from shareparley.companies import Company
from shareparley.deals import beside, cut, merged, summed, turned
from shareparley.dividends import dividends, earned
from shareparley.groups import group_of, hands_of
from shareparley.orders import alike, idle, mean_shares, order_shares, swells, turns
from shareparley.rules import Own, Pairs, Plain, Rule, Votes
from shareparley.stable import bettering, stable
from shareparley.texts import read, shown
from shareparley.votes import weights_for


def swelling_tables(seed):
    """Tables that swell: from dividends from 0 on, for all groups of two hands or more."""
    source = Random(seed)
    found = []
    for many in range(1, 7):
        for turn in range(6):
            bound = source.choice([1, 9, 10 ** 18])
            shares = [0] + [source.choice([0, source.randint(0, bound)]) for place in range(2 ** many - 1)]
            for hand in range(many):
                shares[2 ** hand] = source.randint(-bound, bound)
            found.append(earned(shares))
            # A sum of its own for each hand more: where hands come later, they add more.
            found.append([len(members(group, many)) ** 2 * bound for group in range(2 ** many)])
    return found


def is_stable(table, pairs):
    """Whether the whole company has just what it earns and no group less, by a reckoning of the test's own."""
    by_group = shares_by_group([Fraction(*pair) for pair in pairs])
    return by_group[-1] == table[-1] and all(share >= earning for share, earning in zip(by_group, table))


class TestSwelling(EndingCase):
    def test_shares_of_each_order_are_stable(self):
        source = Random(601)
        for table in swelling_tables(601):
            many = hands_within(table)
            orders = list(permutations(range(many)))
            with self.subTest(table=table):
                self.assertIsNone(swells(table))
                for order in source.sample(orders, min(len(orders), 40)):
                    shares = [(share, 1) for share in order_shares(table, list(order))]
                    self.assertTrue(is_stable(table, shares))
                    self.assertEqual(bettering(table, shares), [])

    def test_mean_and_calm_shares_are_stable(self):
        for table in swelling_tables(602):
            with self.subTest(table=table):
                self.assertEqual(stable(table)[0], "shares")
                self.assertTrue(is_stable(table, stable(table)[1]))
                for shares in (mean_shares(table), calm(table)[0]):
                    self.assertTrue(is_stable(table, shares))
                    self.assertEqual(bettering(table, shares), [])

    def test_where_a_table_does_not_some_order_is_not_stable(self):
        seen = 0
        for table in some_tables(603, each=3):
            if hands_within(table) < 5 and swells(table) is not None:
                orders = permutations(range(hands_within(table)))
                unstable = [order for order in orders
                            if bettering(table, [(share, 1) for share in order_shares(table, list(order))])]
                with self.subTest(table=table):
                    self.assertNotEqual(unstable, [])
                seen += 1
        self.assertGreater(seen, 15)


class TestFromATextOn(EndingCase):
    TEXT = "hands 4; own 1 0 -2 3; pairs 0-1:4 2-3:6; votes 3 5 1 1 1 1; match 0-2:2 1-3:7; net 1 2 3 4 0-3:1"

    def test_the_same_company(self):
        rules = [Own([1, 0, -2, 3]), Pairs(4, [(0, 1, 4), (2, 3, 6)]), Votes(3, 5, [1, 1, 1, 1]),
                 Match(4, [(0, 2, 2), (1, 3, 7)]), Net([1, 2, 3, 4], [(0, 3, 1)])]
        self.assertEqual(read(self.TEXT).table(), Company(4, rules).table())
        self.assertEqual(read(self.TEXT).words(), self.TEXT)

    def test_what_is_told_of_it(self):
        table = read(self.TEXT).table()
        self.assertEqual(read(shown(table)).table(), table)
        for shares in (mean_shares(table), calm(table)[0]):
            self.assertEqual(sum(see_fractions(self, shares, 4)), table[15])
        word, told = stable(table)
        if word == "shares":
            self.assertTrue(is_stable(table, told))
        else:
            weights = see_weighing(self, told, 4)
            self.assertGreater(sum(table[group] * weight for group, weight in weights.items()), table[15])
        self.assertEqual(bettering(table, calm(table)[0]) == [], word == "shares")

    def test_small_companies_in_full(self):
        table = read("hands 3; votes 2 6 1 1 1").table()
        self.assertEqual(table, [0, 0, 0, 6, 0, 6, 6, 6])
        self.assertEqual(mean_shares(table), [(2, 1)] * 3)
        self.assertEqual(calm(table)[0], [(2, 1)] * 3)
        self.assertEqual(stable(table), ("weighing", [(3, (1, 2)), (5, (1, 2)), (6, (1, 2))]))
        self.assertEqual(bettering(table, calm(table)[0]), [3, 5, 6])
        table = read("hands 2; own 1 2; pairs 0-1:4").table()
        self.assertEqual(table, [0, 1, 2, 7])
        self.assertEqual(mean_shares(table), [(3, 1), (4, 1)])
        self.assertEqual(calm(table)[0], [(3, 1), (4, 1)])
        self.assertEqual(stable(table)[0], "shares")

    def test_drawn_companies(self):
        source = Random(604)
        for many in range(1, 7):
            for turn in range(4):
                pairs = [(one, other, source.randint(0, 20)) for one, other in all_pairs(many)]
                numbers = [source.randint(0, 20) for hand in range(many)]
                rules = source.sample([Rule(many), Own(numbers), Pairs(many, pairs), Match(many, pairs),
                                       Net(numbers, pairs), Votes(source.randint(1, 40), 30, numbers),
                                       Plain(some_table(source, many))], 3)
                company = Company(many, rules[:source.randint(0, 3)])
                table = company.table()
                with self.subTest(text=company.words()):
                    if max(len(str(abs(number))) for number in table) <= 30:
                        self.assertEqual(read(company.words()).words(), company.words())
                        self.assertEqual(read(company.words()).table(), table)
                        self.assertEqual(read(shown(table)).table(), table)
                    self.assertEqual(sum(Fraction(*share) for share in mean_shares(table)), table[-1])
                    self.assertEqual(sum(Fraction(*share) for share in calm(table)[0]), table[-1])
                    self.assertEqual(bettering(table, calm(table)[0]) == [], stable(table)[0] == "shares")

    def test_votes_by_the_rule_and_by_the_weights(self):
        table = read("hands 4; votes 5 1 3 2 2 1").table()
        word, quota, weights = weights_for(table)
        self.assertEqual(word, "weights")
        self.assertEqual(Company(4, [Votes(quota, 1, weights)]).table(), table)
        self.assertEqual(weights_for(read("hands 4; match 0-1:1 2-3:1; votes 4 -1 1 1 1 1").table())[0], "exchange")


class TestMeanShares(EndingCase):
    def test_parted_dividends(self):
        for table in some_tables(605, each=2):
            many = hands_within(table)
            wanted = [Fraction(0)] * many
            for group, dividend in enumerate(dividends(table)):
                for hand in hands_of(group):
                    wanted[hand] += Fraction(dividend, len(hands_of(group)))
            with self.subTest(table=table):
                self.assertEqual([Fraction(*share) for share in mean_shares(table)], wanted)

    def test_hands_that_are_alike_or_add_nought(self):
        table = table_by(5, lambda hands: 10 * len(hands & {0, 2}) ** 2 + 7 * len(hands & {1}))
        self.assertEqual(alike(table), [0, 1, 0, 3, 3])
        self.assertEqual(idle(table), [3, 4])
        self.assertEqual(mean_shares(table), [(20, 1), (7, 1), (20, 1), (0, 1), (0, 1)])
        self.assertEqual(calm(table)[0], [(20, 1), (7, 1), (20, 1), (0, 1), (0, 1)])

    def test_they_add_up(self):
        source = Random(606)
        for many in range(1, 7):
            one = some_table(source, many)
            other = some_table(source, many)
            with self.subTest(many=many):
                added = [Fraction(*first) + Fraction(*second)
                         for first, second in zip(mean_shares(one), mean_shares(other))]
                self.assertEqual([Fraction(*share) for share in mean_shares(summed(one, other))], added)
                self.assertEqual(turns(summed(one, other)), [sum(both) for both in zip(turns(one), turns(other))])


class TestDeals(EndingCase):
    def test_stable_shares_of_companies_put_together(self):
        source = Random(607)
        for turn in range(40):
            first = source.choice(swelling_tables(turn)[:18])
            second = source.choice(swelling_tables(turn + 1)[:18])
            together = beside(first, second)
            with self.subTest(first=first, second=second):
                self.assertEqual(stable(together)[0], "shares")
                self.assertTrue(is_stable(together, stable(first)[1] + stable(second)[1]))
                self.assertTrue(is_stable(together, mean_shares(first) + mean_shares(second)))

    def test_cut_and_merged(self):
        # The hands of a group that is cut out or merged have no more by it than what their table tells.
        source = Random(608)
        for table in swelling_tables(608):
            many = hands_within(table)
            group = group_of(source.sample(range(many), source.randint(1, many)))
            with self.subTest(table=table, group=group):
                self.assertIsNone(swells(cut(table, group)))
                self.assertEqual(stable(cut(table, group))[0], "shares")
                self.assertIsNone(swells(merged(table, group)))
                self.assertEqual(stable(merged(table, group))[0], "shares")

    def test_turned_about(self):
        for table in some_tables(609, each=2):
            with self.subTest(table=table):
                self.assertEqual(turned(turned(table)), table)
                self.assertEqual(mean_shares(turned(table)), mean_shares(table))
                below = [-number for number in turned(table)]
                # Shares are stable for a table where the same shares below 0 are for the table turned about, below 0.
                self.assertEqual(stable(below)[0], stable(table)[0])
                self.assertEqual([Fraction(*share) for share in calm(below)[0]],
                                 [-Fraction(*share) for share in calm(table)[0]])


if __name__ == "__main__":
    unittest.main()
