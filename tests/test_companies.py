import unittest
from random import Random

from helper import (SIXTY_NINES, no_numbers, see_groups_refused, see_refused, some_cost, some_number, some_numbers,
                    some_pairs, some_table, spoil)
from shareparley.best import Match, Net
from shareparley.companies import Company
from shareparley.rules import Own, Pairs, Plain, Rule, Votes
from shareparley.tables import is_table

KINDS = 7


def some_rule(source, many, kind):
    if kind == 0:
        return Rule(many)
    if kind == 1:
        return Own(some_numbers(source, many))
    if kind == 2:
        return Pairs(many, some_pairs(source, many))
    if kind == 3:
        return Votes(some_cost(source) + 1, some_number(source), some_numbers(source, many))
    if kind == 4:
        return Match(many, some_pairs(source, many))
    if kind == 5:
        return Net([some_cost(source) for hand in range(many)], some_pairs(source, many, some_cost))
    return Plain(some_table(source, many))


class TestCompany(unittest.TestCase):
    def see_company(self, many, rules):
        company = Company(many, rules)
        self.assertIs(type(company.hands()), int)
        self.assertEqual(company.hands(), many)
        wanted = [0] * 2 ** many
        words = "hands " + str(many)
        for rule in rules:
            words += "; " + rule.words()
            for group in range(2 ** many):
                wanted[group] += rule.earn(group)
        for group in range(2 ** many):
            told = company.earn(group)
            self.assertIs(type(told), int)
            self.assertEqual(told, wanted[group], group)
        table = company.table()
        self.assertIs(type(table), list)
        self.assertEqual([type(number) for number in table], [int] * 2 ** many)
        self.assertEqual(table, wanted)
        self.assertTrue(is_table(table))
        self.assertEqual(Plain(table).hands(), many)
        self.assertIs(type(company.words()), str)
        self.assertEqual(company.words(), words)

    def test_it_is_no_rule(self):
        self.assertNotIsInstance(Company(2, []), Rule)
        self.assertFalse(issubclass(Company, Rule))

    def test_no_rules(self):
        for many in range(1, 7):
            with self.subTest(many=many):
                company = Company(many, [])
                self.assertEqual(company.table(), [0] * 2 ** many)
                self.assertEqual(company.words(), "hands " + str(many))
                self.see_company(many, [])

    def test_each_kind(self):
        rules = [Votes(3, 10, [1, 2, 2]), Rule(3), Own([1, -2, 3]), Match(3, [(1, 2, 9), (0, 1, 2)]), Pairs(3, []),
                 Net([4, 4, 4], [(0, 2, 1)]), Plain([0, 1, 1, 0, 0, 0, 0, -1]), Pairs(3, [(1, 2, 5), (0, 2, -1)])]
        company = Company(3, rules)
        self.assertEqual(company.words(), "hands 3; votes 3 10 1 2 2; none; own 1 -2 3; match 0-1:2 1-2:9; pairs; "
                         "net 4 4 4 0-2:1; table 1 1 0 0 0 0 -1; pairs 0-2:-1 1-2:5")
        self.assertEqual(company.table(), [0, 1 - 4 + 1, -2 - 4 + 1, 10 - 1 + 2 - 8, 3 - 4, 10 + 4 - 5 - 1,
                                           10 + 1 + 9 - 8 + 5, 10 + 2 + 9 - 9 - 1 + 4])

    def test_none_to_twelve_rules(self):
        for seed in range(3):
            source = Random(seed)
            for many in range(1, 7):
                for many_rules in range(13):
                    rules = [some_rule(source, many, source.randrange(KINDS)) for place in range(many_rules)]
                    with self.subTest(seed=seed, many=many, many_rules=many_rules):
                        self.see_company(many, rules)

    def test_twelve_great_ones(self):
        company = Company(6, [Own([SIXTY_NINES] * 6)] * 12)
        self.assertEqual(company.earn(63), 72 * SIXTY_NINES)
        self.assertEqual(company.table()[32], 12 * SIXTY_NINES)

    def test_the_rules_keep_their_order(self):
        rules = [Own([2, 1]), Own([1, 2]), Rule(2), Own([1, 2])]
        self.assertEqual(Company(2, rules).words(), "hands 2; own 2 1; own 1 2; none; own 1 2")
        self.assertEqual(Company(2, rules[::-1]).words(), "hands 2; own 1 2; none; own 1 2; own 2 1")

    def test_wrong_many(self):
        for place, thing in enumerate(no_numbers() + [0, -1, 7, 8, SIXTY_NINES, -SIXTY_NINES]):
            with self.subTest(place=place):
                see_refused(self, "NoRule", Company, thing, [])
                see_refused(self, "NoRule", Company, thing, [Rule(1)])
                see_refused(self, "NoRule", Company, thing, [Rule(1)] * 13)

    def test_too_many_rules(self):
        for many in range(1, 7):
            for many_rules in (13, 14, 100, 100000):
                with self.subTest(many=many, many_rules=many_rules):
                    see_refused(self, "NoRule", Company, many, [Rule(many)] * many_rules)

    def test_a_rule_for_another_number_of_hands(self):
        source = Random(0)
        for many in range(1, 7):
            for other in range(1, 7):
                if many == other:
                    continue
                for kind in range(KINDS):
                    stray = some_rule(source, other, kind)
                    with self.subTest(many=many, other=other, kind=kind):
                        see_refused(self, "NoRule", Company, many, [stray])
                        see_refused(self, "NoRule", Company, many, [Rule(many)] * 11 + [stray])
                        see_refused(self, "NoRule", Company, many, [stray] + [Rule(many)] * 11)

    def test_wrong_groups(self):
        for many in range(1, 7):
            for rules in ([], [Rule(many)], [Own([1] * many), Plain([0] * 2 ** many)]):
                with self.subTest(many=many):
                    see_groups_refused(self, Company(many, rules).earn, many)


class TestArguments(unittest.TestCase):
    def test_they_are_called_as_the_interface_says(self):
        rules = [Rule(many=2), Own(numbers=[1, 2]), Pairs(many=2, pairs=[(0, 1, 3)]),
                 Votes(quota=2, prize=5, weights=[1, 1]), Plain(table=[0, 1, 2, 3]),
                 Match(many=2, pairs=[(0, 1, 4)]), Net(costs=[1, 5], ropes=[(0, 1, 2)])]
        company = Company(many=2, rules=rules)
        self.assertEqual(company.earn(group=3), 0 + 3 + 3 + 5 + 3 + 4 - 3)
        self.assertEqual([rule.earn(group=3) for rule in rules], [0, 3, 3, 5, 3, 4, -3])
        self.assertEqual(rules[5].pairing(group=3), [(0, 1)])
        self.assertEqual(rules[6].net(group=3), [(0, 0), (0, 1)])


class TestLists(unittest.TestCase):
    def answers(self, company):
        return (company.hands(), company.words(), company.table(),
                [company.earn(group) for group in range(2 ** company.hands())])

    def test_lists_changed_by_the_asker(self):
        for rules in ([], [Own([1, 2, 3])], [Own([1, 2, 3]), Pairs(3, [(0, 2, 4)]), Net([1, 2, 3], [])]):
            with self.subTest(rules=len(rules)):
                kept = list(rules)
                first = Company(3, rules)
                second = Company(3, rules)
                wanted = self.answers(first)
                self.assertEqual(rules, kept)
                table = first.table()
                other_table = first.table()
                spoil(table)
                self.assertEqual(other_table, wanted[2])
                self.assertEqual(self.answers(first), wanted)
                table.clear()
                rules.append(Own([100, 100, 100]))
                self.assertEqual(self.answers(first), wanted)
                rules.clear()
                self.assertEqual(self.answers(first), wanted)
                self.assertEqual(self.answers(second), wanted)
                self.assertEqual(self.answers(Company(3, kept)), wanted)

    def test_lists_of_its_rules_changed_by_the_asker(self):
        numbers = [1, 2]
        pairs = [(0, 1, 5)]
        company = Company(2, [Own(numbers), Match(2, pairs)])
        numbers[0] = 50
        pairs.clear()
        self.assertEqual(company.table(), [0, 1, 2, 8])
        self.assertEqual(company.words(), "hands 2; own 1 2; match 0-1:5")

    def test_a_table_told_makes_a_rule_of_its_own(self):
        company = Company(2, [Own([1, 2])])
        table = company.table()
        rule = Plain(table)
        table[3] = 99
        self.assertEqual((rule.earn(3), company.earn(3), company.table()[3]), (3, 3, 3))

    def test_what_is_refused_stays(self):
        rules = [Rule(2), Rule(3)]
        kept = list(rules)
        see_refused(self, "NoRule", Company, 2, rules)
        self.assertEqual(rules, kept)


if __name__ == "__main__":
    unittest.main()
