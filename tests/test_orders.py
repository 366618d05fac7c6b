import fractions
import unittest
from itertools import permutations
from math import factorial
from random import Random

from helper import (SIXTY_NINES, Stranger, by_hands, frozen, hands_within, no_numbers, see_apart, see_numbers,
                    see_refused, see_tables_refused, small_table, some_number, some_table, some_tables, table_by)
from shareparley.best import Match, Net
from shareparley.companies import Company
from shareparley.deals import beside, summed, turned
from shareparley.dividends import dividends
from shareparley.fractions import is_fraction
from shareparley.orders import alike, idle, mean_shares, order_shares, swells, turns
from shareparley.rules import Own, Pairs, Votes

NOUGHT = (0, 1)


def shares_by_hands(table, order):
    """What each hand adds to the set of those ahead of it."""
    earning = by_hands(table)
    found = {}
    for place, hand in enumerate(order):
        found[hand] = earning[frozenset(order[:place + 1])] - earning[frozenset(order[:place])]
    return [found[hand] for hand in range(len(order))]


def as_pairs(shares):
    return [(share.numerator, share.denominator) for share in shares]


def mean_over_orders(table):
    many = hands_within(table)
    earning = by_hands(table)
    totals = [0] * many
    for order in permutations(range(many)):
        ahead = frozenset()
        for hand in order:
            after = ahead | {hand}
            totals[hand] += earning[after] - earning[ahead]
            ahead = after
    return as_pairs([fractions.Fraction(total, factorial(many)) for total in totals])


def mean_by_sets(table):
    """The mean over all orders, counting for each set of hands the orders in which just they come ahead."""
    many = hands_within(table)
    earning = by_hands(table)
    shares = []
    for hand in range(many):
        total = 0
        for ahead in earning:
            if hand not in ahead:
                orders = factorial(len(ahead)) * factorial(many - len(ahead) - 1)
                total += orders * (earning[ahead | {hand}] - earning[ahead])
        shares.append(fractions.Fraction(total, factorial(many)))
    return as_pairs(shares)


def mean_by_dividends(table):
    shares = [fractions.Fraction(0)] * hands_within(table)
    for hands, dividend in by_hands(dividends(table)).items():
        for hand in hands:
            shares[hand] += fractions.Fraction(dividend, len(hands))
    return as_pairs(shares)


def turns_by_hands(table):
    earning = by_hands(table)
    return [sum(earning[hands | {hand}] - earning[hands] for hands in earning if hand not in hands)
            for hand in range(hands_within(table))]


def are_alike(table, one, other):
    earning = by_hands(table)
    return all(earning[hands | {one}] == earning[hands | {other}]
               for hands in earning if one not in hands and other not in hands)


def alike_by_hands(table):
    many = hands_within(table)
    return [[one for one in range(many) if one == hand or are_alike(table, one, hand)][0] for hand in range(many)]


def idle_by_hands(table):
    earning = by_hands(table)
    return [hand for hand in range(hands_within(table))
            if all(earning[hands | {hand}] == earning[hands] for hands in earning)]


def tables_with_likes(seed):
    """Tables in which some hands are alike and some idle: by each hand's sort, the hands of one sort are counted."""
    source = Random(seed)
    found = []
    for many in range(1, 7):
        for turn in range(12):
            sorts = [source.randrange(source.choice([1, 2, 3])) for hand in range(many)]
            idle_sort = source.choice([0, 1, None])
            counts = {}

            def earn(hands):
                key = tuple(sorted(sorts[hand] for hand in hands if sorts[hand] != idle_sort))
                if not key:
                    return 0
                return counts.setdefault(key, source.choice([some_number(source), source.randint(-2, 2)]))

            found.append(table_by(many, earn))
    return found


def all_small_tables():
    """All tables of noughts and ones of one to three hands."""
    found = []
    for many in (1, 2, 3):
        for told in range(2 ** (2 ** many - 1)):
            found.append([0] + [told // 2 ** place % 2 for place in range(2 ** many - 1)])
    return found


class TestOrderShares(unittest.TestCase):
    def see_shares(self, table, order):
        told = order_shares(table, order)
        see_numbers(self, told, len(order))
        self.assertEqual(told, shares_by_hands(table, order))
        self.assertEqual(sum(told), table[-1])

    def test_by_hand(self):
        self.assertEqual(order_shares([0, -3], [0]), [-3])
        self.assertEqual(order_shares([0, 1, 2, 10], [0, 1]), [1, 9])
        self.assertEqual(order_shares([0, 1, 2, 10], [1, 0]), [8, 2])
        self.assertEqual(order_shares(table=[0, 1, 2, 4, 8, 16, 32, 64], order=[2, 0, 1]), [8, 48, 8])
        self.assertEqual(order_shares([0, 1, 2, 4, 8, 16, 32, 64], [1, 2, 0]), [32, 2, 30])

    def test_each_order_of_small_companies(self):
        source = Random(61)
        for many in range(1, 6):
            for table in (some_table(source, many), small_table(source, many, 9)):
                for order in permutations(range(many)):
                    with self.subTest(many=many, order=order):
                        self.see_shares(table, list(order))

    def test_drawn_orders_of_six_hands(self):
        source = Random(62)
        for turn in range(200):
            table = source.choice([some_table(source, 6), small_table(source, 6, 9)])
            with self.subTest(turn=turn):
                self.see_shares(table, source.sample(range(6), 6))

    def test_turned_about_they_come_the_other_way(self):
        source = Random(63)
        for table in some_tables(63, each=2):
            many = hands_within(table)
            order = source.sample(range(many), many)
            with self.subTest(table=table):
                self.assertEqual(order_shares(turned(table), order), order_shares(table, order[::-1]))

    def test_wrong_orders(self):
        for many in range(1, 7):
            table = list(range(2 ** many))
            good = list(range(many))
            wrong = [[], good[:-1], good[1:], good + [0], good + good, good + [many - 1], good + [many], good * 1000,
                     [hand + 1 for hand in good], [hand - 1 for hand in good], [-hand for hand in good] + [0],
                     good[:-1] + [many], good[:-1] + [-1], good[:-1] + [SIXTY_NINES], good[:-1] + [-SIXTY_NINES],
                     good[:-1] + [6], good[:-1] + [64]]
            if many > 1:
                wrong += [[0] * many, [many - 1] * many, good[:-1] + [0], [many - 1] + good[1:]]
            if many > 2:
                wrong += [[0, 0] + good[2:], good[:-2] + [many - 1] * 2]
            for thing in no_numbers():
                wrong += [good[:-1] + [thing], [thing] + good[1:], [thing] * many, good + [thing], [thing]]
            for place, order in enumerate(wrong):
                with self.subTest(many=many, place=place):
                    long = len(order)
                    see_refused(self, "NoOrder", order_shares, table, order)
                    self.assertEqual(len(order), long)
                    self.assertEqual(table, list(range(2 ** many)))

    def test_truths_in_the_place_of_hands(self):
        see_refused(self, "NoOrder", order_shares, [0, 1, 2, 3], [False, True])
        see_refused(self, "NoOrder", order_shares, [0, 1, 2, 3], [0, True])
        see_refused(self, "NoOrder", order_shares, [0, 1, 2, 3], [1, False])
        see_refused(self, "NoOrder", order_shares, [0, 1], [False])

    def test_wrong_tables(self):
        for order in ([0], [0, 1], [], [0, 1, 2, 3, 4, 5], [None], [7], [0, 0], [Stranger()]):
            see_tables_refused(self, lambda table: order_shares(table, order))


class TestMeanShares(unittest.TestCase):
    def see_means(self, table, wanted):
        told = mean_shares(table)
        self.assertIs(type(told), list)
        self.assertEqual(len(told), hands_within(table))
        for share in told:
            self.assertIs(type(share), tuple)
            self.assertTrue(is_fraction(share))
        self.assertEqual(told, wanted)

    def test_by_hand(self):
        self.see_means([0, -7], [(-7, 1)])
        self.see_means([0, 1, 2, 10], [(9, 2), (11, 2)])
        self.see_means([0, 0, 0, 1, 0, 1, 1, 1], [(1, 3)] * 3)
        self.see_means([0, 0, 0, 1, 0, 1, 0, 1], [(2, 3), (1, 6), (1, 6)])
        self.see_means([0] * 64, [NOUGHT] * 6)
        self.assertEqual(mean_shares(table=[0, 3, 3, 3]), [(3, 2), (3, 2)])

    def test_over_all_orders(self):
        for table in some_tables(71, each=2) + tables_with_likes(71)[::6] + all_small_tables():
            with self.subTest(table=table):
                self.see_means(table, mean_over_orders(table))

    def test_by_sets_and_by_dividends(self):
        for table in some_tables(72) + tables_with_likes(72):
            with self.subTest(table=table):
                self.see_means(table, mean_by_sets(table))
                self.see_means(table, mean_by_dividends(table))

    def test_each_group_alone(self):
        for many in range(1, 7):
            for group in range(1, 2 ** many):
                table = [1 if other & group == group else 0 for other in range(2 ** many)]
                long = bin(group).count("1")
                with self.subTest(many=many, group=group):
                    self.see_means(table, [(1, long) if group // 2 ** hand % 2 else NOUGHT for hand in range(many)])

    def test_all_is_given_away(self):
        for table in some_tables(73) + tables_with_likes(73):
            with self.subTest(table=table):
                told = sum(fractions.Fraction(*share) for share in mean_shares(table))
                self.assertEqual(told, table[-1])

    def test_alike_and_idle(self):
        seen_alike = seen_idle = 0
        for table in tables_with_likes(74):
            told = mean_shares(table)
            with self.subTest(table=table):
                for hand, least in enumerate(alike(table)):
                    self.assertEqual(told[hand], told[least])
                    seen_alike += hand != least
                for hand in idle(table):
                    self.assertEqual(told[hand], NOUGHT)
                    seen_idle += 1
        self.assertGreater(seen_alike, 20)
        self.assertGreater(seen_idle, 20)

    def test_they_add_up(self):
        source = Random(75)
        tables = some_tables(75) + tables_with_likes(75)
        for turn in range(100):
            one = source.choice(tables)
            other = source.choice([table for table in tables if len(table) == len(one)])
            shares = [fractions.Fraction(*first) + fractions.Fraction(*second)
                      for first, second in zip(mean_shares(one), mean_shares(other))]
            with self.subTest(turn=turn):
                self.assertEqual(mean_shares(summed(one, other)), as_pairs(shares))

    def test_side_by_side_and_turned_about(self):
        source = Random(76)
        for many in range(1, 4):
            for turn in range(10):
                one = some_table(source, many)
                other = small_table(source, source.randint(1, 6 - many), 9)
                with self.subTest(many=many, turn=turn):
                    self.assertEqual(mean_shares(beside(one, other)), mean_shares(one) + mean_shares(other))
                    self.assertEqual(mean_shares(turned(one)), mean_shares(one))

    def test_wrong_tables(self):
        see_tables_refused(self, mean_shares)


class TestTurns(unittest.TestCase):
    def test_by_hand(self):
        self.assertEqual(turns([0, 5]), [5])
        self.assertEqual(turns([0, 1, 2, 10]), [1 + 8, 2 + 9])
        self.assertEqual(turns(table=[0, 0, 0, 1, 0, 1, 1, 1]), [2, 2, 2])
        self.assertEqual(turns([0, 0, 0, 1, 0, 1, 0, 1]), [3, 1, 1])
        self.assertEqual(turns([0, -SIXTY_NINES, SIXTY_NINES, 0]), [-2 * SIXTY_NINES, 2 * SIXTY_NINES])

    def test_each_table(self):
        for table in some_tables(81) + tables_with_likes(81) + all_small_tables():
            with self.subTest(table=table):
                told = turns(table)
                see_numbers(self, told, hands_within(table))
                self.assertEqual(told, turns_by_hands(table))

    def test_wrong_tables(self):
        see_tables_refused(self, turns)


class TestAlike(unittest.TestCase):
    def test_by_hand(self):
        self.assertEqual(alike([0, 5]), [0])
        self.assertEqual(alike([0, 1, 2, 10]), [0, 1])
        self.assertEqual(alike([0, 2, 2, 10]), [0, 0])
        self.assertEqual(alike(table=[0, 0, 0, 1, 0, 1, 0, 1]), [0, 1, 1])
        self.assertEqual(alike([0, 5, 1, 6, 5, 10, 6, 11]), [0, 1, 0])
        self.assertEqual(alike([0] * 64), [0] * 6)
        self.assertEqual(alike(Company(6, [Own([4, 7, 4, 7, 9, 4])]).table()), [0, 1, 0, 1, 4, 0])

    def test_without_any(self):
        for many in range(1, 7):
            with self.subTest(many=many):
                self.assertEqual(alike(list(range(2 ** many))), list(range(many)))
                self.assertEqual(idle(list(range(2 ** many))), [])

    def test_they_need_the_same_in_each_group(self):
        # Alone both earn as much, but not with hand 2.
        self.assertEqual(alike([0, 1, 1, 5, 3, 4, 5, 9]), [0, 1, 2])
        for place in range(1, 63):
            table = [bin(group).count("1") for group in range(64)]
            table[place] += 100
            with self.subTest(place=place):
                inside = [hand for hand in range(6) if place // 2 ** hand % 2]
                outside = [hand for hand in range(6) if hand not in inside]
                self.assertEqual(alike(table), [inside[0] if hand in inside else outside[0] for hand in range(6)])

    def test_each_table(self):
        seen = 0
        for table in some_tables(82) + tables_with_likes(82) + all_small_tables():
            with self.subTest(table=table):
                told = alike(table)
                see_numbers(self, told, hands_within(table))
                self.assertEqual(told, alike_by_hands(table))
                seen += told != list(range(len(told)))
        self.assertGreater(seen, 40)

    def test_wrong_tables(self):
        see_tables_refused(self, alike)


class TestIdle(unittest.TestCase):
    def test_by_hand(self):
        self.assertEqual(idle([0, 5]), [])
        self.assertEqual(idle([0, 0]), [0])
        self.assertEqual(idle([0, 0, 5, 5]), [0])
        self.assertEqual(idle(table=[0, 5, 0, 5]), [1])
        self.assertEqual(idle([0, 5, 0, 4]), [])
        self.assertEqual(idle([0] * 64), [0, 1, 2, 3, 4, 5])
        self.assertEqual(idle(Company(6, [Own([4, 0, 4, 0, 9, 0])]).table()), [1, 3, 5])

    def test_adding_nought_on_the_whole_is_not_enough(self):
        # Each hand adds 1 to nobody and takes 1 from the other: its turns come to nought.
        self.assertEqual(turns([0, 1, 1, 0]), [0, 0])
        self.assertEqual(idle([0, 1, 1, 0]), [])
        self.assertEqual(idle([0, 1, 1, 1]), [])

    def test_each_group_counts(self):
        for group in range(32):
            # Hand 5 is idle but for one group.
            table = [bin(other % 32).count("1") for other in range(64)]
            table[group + 32] += 1
            with self.subTest(group=group):
                self.assertEqual(idle(table), [])

    def test_each_table(self):
        seen = 0
        for table in some_tables(83) + tables_with_likes(83) + all_small_tables():
            with self.subTest(table=table):
                told = idle(table)
                see_numbers(self, told, len(told))
                self.assertEqual(told, idle_by_hands(table))
                seen += 0 < len(told) < hands_within(table)
        self.assertGreater(seen, 20)

    def test_wrong_tables(self):
        see_tables_refused(self, idle)


class TestSwells(unittest.TestCase):
    def see_not(self, table):
        """Two groups are told that do earn more than their union and what they have in common."""
        told = swells(table)
        self.assertIs(type(told), tuple)
        self.assertEqual([type(group) for group in told], [int, int])
        one, other = told
        self.assertTrue(0 <= one < len(table) and 0 <= other < len(table))
        self.assertGreater(table[one] + table[other], table[one | other] + table[one & other])

    def does(self, table):
        earning = by_hands(table)
        return all(earning[one] + earning[other] <= earning[one | other] + earning[one & other]
                   for one in earning for other in earning)

    def test_by_hand(self):
        self.assertIsNone(swells([0, -5]))
        self.assertIsNone(swells([0, 1, 2, 3]))
        self.assertIsNone(swells([0, 1, 2, 9]))
        self.assertIn(swells([0, 1, 2, 2]), [(1, 2), (2, 1)])
        self.assertIsNone(swells(table=[0, 0, 0, 1, 0, 1, 1, 2]))
        self.assertIsNotNone(swells([0, 0, 0, 1, 0, 1, 1, 1]))
        self.see_not([0, 0, 0, 1, 0, 1, 1, 1])

    def test_each_table(self):
        seen = 0
        for table in some_tables(84) + tables_with_likes(84) + all_small_tables():
            with self.subTest(table=table):
                if self.does(table):
                    self.assertIsNone(swells(table))
                    seen += 1
                else:
                    self.see_not(table)
        self.assertGreater(seen, 20)

    def test_tables_that_do(self):
        source = Random(85)
        for many in range(1, 7):
            for turn in range(10):
                pairs = [(one, other, source.choice([0, abs(some_number(source))]))
                         for other in range(many) for one in range(other)]
                table = Company(many, [Own([some_number(source) for hand in range(many)]), Pairs(many, pairs)]).table()
                with self.subTest(many=many, turn=turn):
                    self.assertIsNone(swells(table))
                    self.assertTrue(self.does(table))

    def test_one_more_is_seen(self):
        # Where each hand earns 1, all groups stand just as they may; one more for a group is too much.
        for many in range(2, 7):
            even = [bin(group).count("1") for group in range(2 ** many)]
            self.assertIsNone(swells(even))
            for group in range(1, 2 ** many):
                more = list(even)
                more[group] += 1
                less = list(even)
                less[group] -= 1
                with self.subTest(many=many, group=group):
                    if group == 2 ** many - 1:
                        self.assertIsNone(swells(more))
                        self.see_not(less)
                    else:
                        self.see_not(more)

    def test_other_rules(self):
        self.see_not(Company(3, [Votes(2, 1, [1, 1, 1])]).table())
        self.see_not(Company(4, [Match(4, [(0, 1, 1), (1, 2, 1)])]).table())
        self.assertIsNone(swells(Company(3, [Net([5, 5, 5], [])]).table()))

    def test_wrong_tables(self):
        see_tables_refused(self, swells)


class TestLists(unittest.TestCase):
    def test_each_call(self):
        for table in some_tables(91, each=1) + tables_with_likes(91)[::9]:
            many = hands_within(table)
            with self.subTest(table=table):
                for call in (mean_shares, turns, alike, idle, swells):
                    see_apart(self, call, list(table))
                see_apart(self, order_shares, list(table), list(range(many))[::-1])

    def test_an_order_changed_later(self):
        table = [0, 1, 2, 10]
        order = [1, 0]
        told = order_shares(table, order)
        order.reverse()
        self.assertEqual(told, [8, 2])
        self.assertEqual(order_shares(table, order), [1, 9])

    def test_what_is_refused_stays(self):
        handed = [[0, 1, 2, 10], [1, 1]]
        before = frozen(handed)
        see_refused(self, "NoOrder", order_shares, *handed)
        self.assertEqual(frozen(handed), before)


if __name__ == "__main__":
    unittest.main()
