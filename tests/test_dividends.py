import unittest
from random import Random

from helper import (SIXTY_NINES, by_hands, hands_within, see_apart, see_numbers, see_tables_refused, some_tables,
                    table_by)
from shareparley.companies import Company
from shareparley.deals import summed
from shareparley.dividends import dividends, earned
from shareparley.rules import Own, Pairs
from shareparley.tables import is_table


def sums_of_parts(numbers):
    """For each set of hands the numbers of all sets within it, added."""
    each = by_hands(numbers)
    return table_by(hands_within(numbers), lambda hands: sum(each[part] for part in each if part <= hands))


def signed_sums(table):
    """The dividends, straight: what the parts earn, added or taken off by how many hands they are short."""
    each = by_hands(table)
    return table_by(hands_within(table), lambda hands: sum(each[part] * (-1) ** len(hands - part)
                                                           for part in each if part <= hands))


class TestDividends(unittest.TestCase):
    def see_dividends(self, table, told):
        see_numbers(self, told, len(table))
        self.assertEqual(told[0], 0)
        self.assertEqual(sums_of_parts(told), table)

    def test_by_hand(self):
        self.assertEqual(dividends([0, 5]), [0, 5])
        self.assertEqual(dividends([0, 1, 2, 10]), [0, 1, 2, 7])
        self.assertEqual(dividends(table=[0, 0, 0, 1, 0, 1, 1, 1]), [0, 0, 0, 1, 0, 1, 1, -2])
        self.assertEqual(dividends([0, 1, 1, 1, 1, 1, 1, 1]), [0, 1, 1, -1, 1, -1, -1, 1])
        self.assertEqual(earned([0, 1, 2, 7]), [0, 1, 2, 10])
        self.assertEqual(earned(table=[0, 0, 0, 1, 0, 1, 1, -2]), [0, 0, 0, 1, 0, 1, 1, 1])

    def test_each_group_earns_those_of_its_parts(self):
        for table in some_tables(51):
            with self.subTest(table=table):
                told = dividends(table)
                self.see_dividends(table, told)
                self.assertEqual(told, signed_sums(table))

    def test_earned(self):
        for numbers in some_tables(52):
            with self.subTest(numbers=numbers):
                table = earned(numbers)
                see_numbers(self, table, len(numbers))
                self.assertTrue(is_table(table))
                self.assertEqual(table, sums_of_parts(numbers))

    def test_there_and_back(self):
        for table in some_tables(53):
            with self.subTest(table=table):
                self.assertEqual(earned(dividends(table)), table)
                self.assertEqual(dividends(earned(table)), table)

    def test_one_group_alone(self):
        for many in range(1, 7):
            for group in range(1, 2 ** many):
                numbers = [0] * 2 ** many
                numbers[group] = SIXTY_NINES
                table = [SIXTY_NINES if other & group == group else 0 for other in range(2 ** many)]
                with self.subTest(many=many, group=group):
                    self.assertEqual(earned(numbers), table)
                    self.assertEqual(dividends(table), numbers)

    def test_own_and_pairs(self):
        table = Company(3, [Own([4, 5, 6]), Pairs(3, [(0, 1, 7), (1, 2, -8)])]).table()
        self.assertEqual(dividends(table), [0, 4, 5, 7, 6, 0, -8, 0])

    def test_they_add_up(self):
        source = Random(54)
        tables = some_tables(54)
        for turn in range(60):
            one = source.choice(tables)
            other = source.choice([table for table in tables if len(table) == len(one)])
            with self.subTest(turn=turn):
                self.assertEqual(dividends(summed(one, other)), summed(dividends(one), dividends(other)))
                self.assertEqual(earned(summed(one, other)), summed(earned(one), earned(other)))

    def test_wrong_tables(self):
        see_tables_refused(self, dividends)
        see_tables_refused(self, earned)

    def test_lists(self):
        for table in some_tables(55, each=1):
            see_apart(self, dividends, list(table))
            see_apart(self, earned, list(table))


if __name__ == "__main__":
    unittest.main()
