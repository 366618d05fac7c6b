import unittest
from random import Random

from helper import (SIXTY_NINES, Stranger, by_hands, frozen, hands_within, members, no_numbers, no_tables, see_apart,
                    see_numbers, see_refused, see_tables_refused, small_table, some_table, some_tables, table_by)
from shareparley.deals import beside, cut, merged, summed, turned
from shareparley.tables import is_table

RUNS = 3


class DealCase(unittest.TestCase):
    def see_table(self, told, wanted):
        see_numbers(self, told, len(wanted))
        self.assertTrue(is_table(told))
        self.assertEqual(told, wanted)


def some_pair(source, one_many, other_many):
    return (source.choice([some_table, lambda source, many: small_table(source, many, 3)])(source, one_many),
            source.choice([some_table, lambda source, many: small_table(source, many, 3)])(source, other_many))


class TestSummed(DealCase):
    def test_by_hand(self):
        self.see_table(summed([0, 1], [0, 5]), [0, 6])
        self.see_table(summed([0, 1, 2, 3], [0, -1, 10, 7]), [0, 0, 12, 10])
        self.see_table(summed(one=[0, SIXTY_NINES], other=[0, SIXTY_NINES]), [0, 2 * SIXTY_NINES])

    def test_group_by_group(self):
        for seed in range(8):
            source = Random(seed)
            for many in range(1, 7):
                one, other = some_pair(source, many, many)
                first, second = by_hands(one), by_hands(other)
                with self.subTest(seed=seed, many=many):
                    self.see_table(summed(one, other), table_by(many, lambda hands: first[hands] + second[hands]))
                    self.see_table(summed(other, one), summed(one, other))
                    self.see_table(summed(one, one), [2 * number for number in one])

    def test_unlike(self):
        source = Random(1)
        for one_many in range(1, 7):
            for other_many in range(1, 7):
                if one_many != other_many:
                    with self.subTest(one=one_many, other=other_many):
                        one, other = some_pair(source, one_many, other_many)
                        before = frozen([one, other])
                        see_refused(self, "Unlike", summed, one, other)
                        self.assertEqual(frozen([one, other]), before)


class TestBeside(DealCase):
    def test_by_hand(self):
        self.see_table(beside([0, 1], [0, 5]), [0, 1, 5, 6])
        self.see_table(beside([0, 1, 2, 4], [0, 10]), [0, 1, 2, 4, 10, 11, 12, 14])
        self.see_table(beside(one=[0, 10], other=[0, 1, 2, 4]), [0, 10, 1, 11, 2, 12, 4, 14])

    def test_numbered_on_behind(self):
        for seed in range(RUNS):
            source = Random(seed)
            for one_many in range(1, 6):
                for other_many in range(1, 7 - one_many):
                    one, other = some_pair(source, one_many, other_many)
                    first, second = by_hands(one), by_hands(other)

                    def earn(hands):
                        ahead = frozenset(hand for hand in hands if hand < one_many)
                        behind = frozenset(hand - one_many for hand in hands if hand >= one_many)
                        return first[ahead] + second[behind]

                    with self.subTest(seed=seed, one=one_many, other=other_many):
                        told = beside(one, other)
                        self.see_table(told, table_by(one_many + other_many, earn))
                        self.see_table(cut(told, 2 ** one_many - 1), one)
                        self.see_table(cut(told, len(told) - 2 ** one_many), other)

    def test_too_many(self):
        source = Random(2)
        for one_many in range(1, 7):
            for other_many in range(7 - one_many, 7):
                with self.subTest(one=one_many, other=other_many):
                    one, other = some_pair(source, one_many, other_many)
                    before = frozen([one, other])
                    see_refused(self, "TooMany", beside, one, other)
                    self.assertEqual(frozen([one, other]), before)


def cut_by_lists(table, group):
    many = hands_within(table)
    earning = by_hands(table)
    kept = members(group, many)
    return table_by(len(kept), lambda hands: earning[frozenset(kept[hand] for hand in hands)])


def merged_by_lists(table, group):
    many = hands_within(table)
    earning = by_hands(table)
    inside = members(group, many)
    # For each new hand the hands that stand behind it.
    behind = [inside if hand == inside[0] else [hand] for hand in range(many) if hand not in inside[1:]]
    return table_by(len(behind), lambda hands: earning[frozenset(old for hand in hands for old in behind[hand])])


class TestCut(DealCase):
    def test_by_hand(self):
        table = [0, 1, 2, 3, 4, 5, 6, 7]
        self.see_table(cut(table, 1), [0, 1])
        self.see_table(cut(table, 4), [0, 4])
        self.see_table(cut(table, 5), [0, 1, 4, 5])
        self.see_table(cut(table=table, group=6), [0, 2, 4, 6])

    def test_by_each_group(self):
        for seed in range(RUNS):
            source = Random(seed)
            for many in range(1, 7):
                for table in (some_table(source, many), small_table(source, many, 9)):
                    with self.subTest(seed=seed, many=many):
                        for group in range(1, 2 ** many):
                            self.see_table(cut(table, group), cut_by_lists(table, group))
                        self.see_table(cut(table, 2 ** many - 1), table)


class TestMerged(DealCase):
    def test_by_hand(self):
        table = [0, 1, 2, 3, 4, 5, 6, 7]
        self.see_table(merged(table, 3), [0, 3, 4, 7])
        self.see_table(merged(table, 6), [0, 1, 6, 7])
        self.see_table(merged(table, 5), [0, 5, 2, 7])
        self.see_table(merged(table=table, group=7), [0, 7])
        self.see_table(merged(table, 2), table)

    def test_by_each_group(self):
        for seed in range(RUNS):
            source = Random(seed)
            for many in range(1, 7):
                for table in (some_table(source, many), small_table(source, many, 9)):
                    with self.subTest(seed=seed, many=many):
                        for group in range(1, 2 ** many):
                            self.see_table(merged(table, group), merged_by_lists(table, group))
                        for hand in range(many):
                            self.see_table(merged(table, 2 ** hand), table)
                        self.see_table(merged(table, 2 ** many - 1), [0, table[-1]])


class TestTurned(DealCase):
    def test_by_hand(self):
        self.see_table(turned([0, 5]), [0, 5])
        self.see_table(turned([0, 1, 2, 10]), [0, 8, 9, 10])
        self.see_table(turned(table=[0, 1, 2, 3, 4, 5, 6, 20]), [0, 14, 15, 16, 17, 18, 19, 20])

    def test_each_table_and_again(self):
        for table in some_tables(41):
            many = hands_within(table)
            earning = by_hands(table)
            everybody = frozenset(range(many))
            with self.subTest(table=table):
                told = turned(table)
                self.see_table(told, table_by(many, lambda hands: earning[everybody] - earning[everybody - hands]))
                self.see_table(turned(told), table)


class TestWrongGroups(unittest.TestCase):
    def test_each(self):
        for many in range(1, 7):
            table = list(range(2 ** many))
            wrong = no_numbers() + [0, -1, -2, 2 ** many, 2 ** many + 1, 64, 65, 1000, SIXTY_NINES, -SIXTY_NINES]
            for place, group in enumerate(wrong):
                with self.subTest(many=many, place=place):
                    see_refused(self, "NoGroup", cut, table, group)
                    see_refused(self, "NoGroup", merged, table, group)
                    self.assertEqual(table, list(range(2 ** many)))


class TestWrongTables(unittest.TestCase):
    def test_one_table(self):
        see_tables_refused(self, turned)
        see_tables_refused(self, lambda table: cut(table, 1))
        see_tables_refused(self, lambda table: merged(table, 1))

    def test_ahead_of_wrong_groups(self):
        for group in (0, -1, 64, None, True, "1", Stranger()):
            see_tables_refused(self, lambda table: cut(table, group))
            see_tables_refused(self, lambda table: merged(table, group))

    def test_either_of_two(self):
        for call in (summed, beside):
            for many in range(1, 7):
                good = [0] * 2 ** many
                with self.subTest(many=many, call=call.__name__):
                    see_tables_refused(self, lambda table: call(table, good))
                    see_tables_refused(self, lambda table: call(good, table))

    def test_both(self):
        for call in (summed, beside):
            see_tables_refused(self, lambda table: call(table, table))
            for place, other in enumerate(no_tables()[::40]):
                with self.subTest(call=call.__name__, place=place):
                    see_refused(self, "NoTable", call, [], other)
                    see_refused(self, "NoTable", call, other, [0] * 128)
                    see_refused(self, "NoTable", call, [1] * 64, other)


class TestLists(unittest.TestCase):
    def test_each_call(self):
        for table in some_tables(42, each=1):
            whole = len(table) - 1
            with self.subTest(table=table):
                see_apart(self, summed, list(table), list(table))
                see_apart(self, turned, list(table))
                for group in sorted({1, whole, whole // 2 + 1, (whole + 1) // 2}):
                    see_apart(self, cut, list(table), group)
                    see_apart(self, merged, list(table), group)
                if len(table) <= 8:
                    see_apart(self, beside, list(table), list(table))

    def test_one_list_handed_in_twice(self):
        table = [0, 1, 2, 4]
        told = summed(table, table)
        wide = beside(table, table)
        table[1] = 50
        self.assertEqual(told, [0, 2, 4, 8])
        self.assertEqual(wide[:6], [0, 1, 2, 4, 1, 2])


if __name__ == "__main__":
    unittest.main()
