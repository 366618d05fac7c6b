import unittest
from fractions import Fraction
from random import Random

from helper import (SIXTY_NINES, EndingCase, Stranger, frozen, hands_within, members, no_fractions, no_numbers,
                    see_apart, see_fractions, see_numbers, see_refused, see_tables_refused, see_weighing,
                    shares_by_group, small_table, some_number, some_table, some_tables)
from shareparley.best import Match, Net
from shareparley.companies import Company
from shareparley.rules import Own, Pairs, Votes
from shareparley.stable import bettering, stable

EIGHTEEN = 10 ** 18 - 1


def as_pair(number):
    number = Fraction(number)
    return (number.numerator, number.denominator)


def some_shares(source, many):
    """Shares of any bottom and either sign."""
    return [as_pair(Fraction(some_number(source), abs(some_number(source)) + 1)) for hand in range(many)]


def near_shares(source, table, bottom):
    """Shares by which many groups have just what they earn, or somewhat more or less."""
    many = hands_within(table)
    return [as_pair(Fraction(table[2 ** hand] * bottom + source.randint(-1, 1), bottom)) for hand in range(many)]


def bettered(table, shares):
    """The groups whose hands' shares come to less than they earn, by a reckoning of the test's own."""
    found = []
    for group in range(len(table)):
        total = Fraction(0)
        for hand in members(group, len(shares)):
            total += Fraction(*shares[hand])
        if total < table[group]:
            found.append(group)
    return found


def balanced_tables(seed):
    """Tables of two hands or more made around shares: no group can better these, and with one less one could."""
    source = Random(seed)
    found = []
    for many in range(2, 7):
        for turn in range(10):
            shares = [some_number(source) for hand in range(many)]
            table = [sum(shares[hand] for hand in members(group, many)) for group in range(2 ** many)]
            half = source.randrange(1, 2 ** many - 1)
            for group in range(1, 2 ** many - 1):
                if group != half and group != 2 ** many - 1 - half:
                    table[group] -= source.choice([0, 0, abs(some_number(source)), 1])
            found.append(table)
    return found


class TestBettering(EndingCase):
    def see_bettering(self, table, shares):
        told = bettering(table, shares)
        see_numbers(self, told, len(told))
        self.assertEqual(told, bettered(table, shares))
        return told

    def test_by_hand(self):
        self.assertEqual(bettering([0, 3], [(3, 1)]), [])
        self.assertEqual(bettering([0, 3], [(5, 2)]), [1])
        self.assertEqual(bettering([0, 3], [(7, 2)]), [])
        self.assertEqual(bettering(table=[0, 1, 2, 10], shares=[(9, 2), (11, 2)]), [])
        self.assertEqual(bettering([0, 1, 2, 10], [(1, 2), (5, 1)]), [1, 3])
        self.assertEqual(bettering([0, 1, 2, 10], [(0, 1), (0, 1)]), [1, 2, 3])
        self.assertEqual(bettering([0, -1, -2, -3], [(-1, 1), (-2, 1)]), [])
        self.assertEqual(bettering([0, 0, 0, 1, 0, 1, 1, 1], [(1, 3)] * 3), [3, 5, 6])
        self.assertEqual(bettering([0, 0, 0, 1, 0, 1, 1, 1], [(1, 2)] * 3), [])
        self.assertEqual(bettering([0] * 64, [(-1, 7)] + [(0, 1)] * 5), list(range(1, 64, 2)))

    def test_just_as_much_is_not_less(self):
        source = Random(301)
        for many in range(1, 7):
            for turn in range(10):
                bottom = source.choice([1, 2, 3, 7, EIGHTEEN])
                tops = [some_number(source) * bottom + source.randint(0, bottom - 1) for hand in range(many)]
                shares = [as_pair(Fraction(top, bottom)) for top in tops]
                table = [0]
                wanted = []
                for group in range(1, 2 ** many):
                    total = sum(tops[hand] for hand in members(group, many))
                    just = -(-total // bottom)
                    more = source.choice([0, 0, -1, 1])
                    table.append(just + more)
                    if (just + more) * bottom > total:
                        wanted.append(group)
                with self.subTest(many=many, turn=turn):
                    self.assertEqual(self.see_bettering(table, shares), wanted)

    def test_each_table(self):
        source = Random(302)
        seen = 0
        for table in some_tables(302):
            with self.subTest(table=table):
                self.see_bettering(table, some_shares(source, hands_within(table)))
                for bottom in (1, 3, 10 ** 9):
                    told = self.see_bettering(table, near_shares(source, table, bottom))
                    seen += 0 < len(told) < len(table) - 1
        self.assertGreater(seen, 60)

    def test_the_whole_company_counts_and_nobody_does_not(self):
        for many in range(1, 7):
            table = [0] * (2 ** many - 1) + [1]
            with self.subTest(many=many):
                self.assertEqual(bettering(table, [(0, 1)] * many), [2 ** many - 1])
                self.assertEqual(bettering([0] * 2 ** many, [(1, 1)] * many), [])
                self.assertEqual(bettering([0] * 2 ** many, [(-1, 1)] * many), list(range(1, 2 ** many)))

    def test_too_few_or_too_many(self):
        for many in range(1, 7):
            table = list(range(2 ** many))
            for long in [long for long in range(9) if long != many] + [64, 1000]:
                with self.subTest(many=many, long=long):
                    see_refused(self, "NoShares", bettering, table, [(1, 2)] * long)
                    see_refused(self, "NoShares", bettering, table, [None] * long)

    def test_no_fractions(self):
        for many in range(1, 7):
            table = list(range(2 ** many))
            for number, thing in enumerate(no_fractions()):
                for place in range(many):
                    shares = [(1, 2)] * many
                    shares[place] = thing
                    with self.subTest(many=many, number=number, place=place):
                        see_refused(self, "NoShares", bettering, table, shares)
                        self.assertEqual(len(shares), many)
                see_refused(self, "NoShares", bettering, table, [thing] * many)
        self.assertEqual(table, list(range(64)))

    def test_wrong_tables(self):
        for shares in ([(1, 2)], [], [None], [(2, 4)] * 2, [(0, 1)] * 6, [Stranger()] * 3, [(1, 1)] * 100):
            see_tables_refused(self, lambda table: bettering(table, shares))


class TestStable(EndingCase):
    def see_stable(self, table):
        """Which of the two is told, after it was seen that it holds."""
        many = hands_within(table)
        told = stable(table)
        self.assertIs(type(told), tuple)
        self.assertEqual(len(told), 2)
        self.assertIn(told[0], ("shares", "weighing"))
        if told[0] == "shares":
            shares = see_fractions(self, told[1], many)
            by_group = shares_by_group(shares)
            self.assertEqual(by_group[-1], table[-1])
            for group, share in enumerate(by_group):
                self.assertGreaterEqual(share, table[group])
            self.assertEqual(bettering(table, told[1]), [])
        else:
            weights = see_weighing(self, told[1], many)
            self.assertGreater(sum(table[group] * weight for group, weight in weights.items()), table[-1])
        return told[0]

    def test_by_hand(self):
        self.assertEqual(stable([0, 5]), ("shares", [(5, 1)]))
        self.assertEqual(stable([0, -5]), ("shares", [(-5, 1)]))
        self.assertEqual(stable([0, 3, 4, 7]), ("shares", [(3, 1), (4, 1)]))
        self.assertEqual(stable(table=[0, 3, 4, 6]), ("weighing", [(1, (1, 1)), (2, (1, 1))]))
        self.assertEqual(stable([0, 0, 0, 1, 0, 1, 1, 1]), ("weighing", [(3, (1, 2)), (5, (1, 2)), (6, (1, 2))]))
        self.assertEqual(stable([0, 0, 0, 2, 0, 2, 2, 3]), ("shares", [(1, 1)] * 3))
        self.assertEqual(stable([0, 0, 0, 1, 0, 1, 0, 1]), ("shares", [(1, 1), (0, 1), (0, 1)]))
        self.assertEqual(stable([0] * 64), ("shares", [(0, 1)] * 6))

    def test_one_hand(self):
        for number in (0, 1, -1, EIGHTEEN, -SIXTY_NINES):
            self.assertEqual(stable([0, number]), ("shares", [(number, 1)]))

    def test_two_hands(self):
        for one in range(-2, 3):
            for other in range(-2, 3):
                for both in range(-5, 6):
                    with self.subTest(one=one, other=other, both=both):
                        wanted = "shares" if one + other <= both else "weighing"
                        self.assertEqual(self.see_stable([0, one, other, both]), wanted)

    def test_all_of_noughts_and_ones(self):
        for many in (1, 2, 3):
            for told in range(2 ** (2 ** many - 1)):
                table = [0] + [told // 2 ** place % 2 for place in range(2 ** many - 1)]
                with self.subTest(table=table):
                    self.see_stable(table)

    def test_each_table(self):
        seen = {"shares": 0, "weighing": 0}
        for table in some_tables(311, each=15):
            with self.subTest(table=table):
                seen[self.see_stable(table)] += 1
                lifted = table[:-1] + [max(table + [1]) * 3]
                seen[self.see_stable(lifted)] += 1
        self.assertGreater(min(seen.values()), 100)

    def test_just_enough_and_one_too_little(self):
        for table in balanced_tables(312):
            with self.subTest(table=table):
                self.assertEqual(self.see_stable(table), "shares")
                self.assertEqual(self.see_stable(table[:-1] + [table[-1] + 1]), "shares")
                self.assertEqual(self.see_stable(table[:-1] + [table[-1] - 1]), "weighing")

    def test_the_least_that_is_enough(self):
        # The whole company is given what the groups' best weighing earns, cut up to a whole number, then one less.
        source = Random(313)
        for many in range(2, 7):
            for bound in (1, 2, 9, EIGHTEEN):
                table = small_table(source, many, bound)
                low = -2 ** many * bound
                high = 2 ** many * bound
                while low < high:
                    middle = (low + high) // 2
                    if self.see_stable(table[:-1] + [middle]) == "shares":
                        high = middle
                    else:
                        low = middle + 1
                with self.subTest(many=many, bound=bound):
                    self.assertEqual(self.see_stable(table[:-1] + [low]), "shares")
                    self.assertEqual(self.see_stable(table[:-1] + [low - 1]), "weighing")

    def test_groups_of_one_size(self):
        # Where all groups of a size earn as much, an even weighing tells what the whole company must earn.
        for many in range(2, 7):
            for size in range(1, many):
                for each in (1, 6, 60):
                    table = [each if len(members(group, many)) == size else -1000 for group in range(2 ** many)]
                    table[0] = 0
                    enough = -(-each * many // size)
                    with self.subTest(many=many, size=size, each=each):
                        self.assertEqual(self.see_stable(table[:-1] + [enough]), "shares")
                        self.assertEqual(self.see_stable(table[:-1] + [enough - 1]), "weighing")

    def test_rules(self):
        for many in range(1, 7):
            hands = range(many)
            pairs = [(one, other, one + other) for other in hands for one in range(other)]
            ropes = [(one, other, 2) for other in hands for one in range(other)]
            with self.subTest(many=many):
                for rule in (Own([5 - hand for hand in hands]), Pairs(many, pairs), Net([7] * many, ropes)):
                    self.assertEqual(self.see_stable(Company(many, [rule]).table()), "shares")
        self.assertEqual(self.see_stable(Company(5, [Votes(3, 1, [1] * 5)]).table()), "weighing")
        self.assertEqual(self.see_stable(Company(5, [Votes(5, 1, [1] * 5)]).table()), "shares")
        self.assertEqual(self.see_stable(Company(3, [Match(3, [(0, 1, 1), (0, 2, 1), (1, 2, 1)])]).table()), "weighing")
        sides = [(0, 3, 5), (0, 4, 8), (1, 3, 7), (1, 5, 9), (2, 4, 2), (2, 5, 6)]
        self.assertEqual(self.see_stable(Company(6, [Match(6, sides)]).table()), "shares")

    def test_great_numbers(self):
        source = Random(314)
        for many in range(1, 7):
            for turn in range(5):
                table = small_table(source, many, EIGHTEEN)
                with self.subTest(many=many, turn=turn):
                    self.see_stable(table)
                    self.see_stable(some_table(source, many))

    def test_wrong_tables(self):
        see_tables_refused(self, stable)


class TestLists(EndingCase):
    def test_each_call(self):
        source = Random(321)
        seen = set()
        for table in some_tables(321, each=2):
            seen.add(stable(table)[0])
            with self.subTest(table=table):
                see_apart(self, stable, list(table))
                see_apart(self, bettering, list(table), near_shares(source, table, 2))
        self.assertEqual(seen, {"shares", "weighing"})

    def test_what_is_refused_stays(self):
        for thing in no_numbers()[:8]:
            handed = [[0, 1, 2, 10], [(1, 2), thing]]
            before = frozen(handed)
            see_refused(self, "NoShares", bettering, *handed)
            self.assertEqual(frozen(handed), before)


if __name__ == "__main__":
    unittest.main()
