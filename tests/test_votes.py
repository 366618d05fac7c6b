import unittest
from random import Random

from helper import (SIXTY_NINES, EndingCase, Stranger, frozen, hands_within, members, no_numbers, see_apart,
                    see_numbers, see_refused, see_rising, see_tables_refused, table_by)
from shareparley.companies import Company
from shareparley.rules import Votes
from shareparley.votes import weights_for


def see_weights(case, table, told):
    """A group wins just where its hands' weights come to the quota or more."""
    many = hands_within(table)
    case.assertEqual(len(told), 3)
    case.assertIs(type(told[1]), int)
    see_numbers(case, told[2], many)
    for group, earning in enumerate(table):
        weight = sum(told[2][hand] for hand in members(group, many))
        case.assertEqual(weight >= told[1], earning == 1)


def times_with(side, hand, many):
    return sum(times for group, times in side if hand in members(group, many))


def see_exchange(case, table, told):
    """Winning and losing groups, as many of these as of those, and each hand as often in the ones as in the others."""
    many = hands_within(table)
    case.assertEqual(len(told), 3)
    for side, earning in ((told[1], 1), (told[2], 0)):
        see_rising(case, side, 0, 2 ** many - 1)
        for group, times in side:
            case.assertEqual(table[group], earning)
            case.assertIs(type(times), int)
            case.assertGreaterEqual(times, 1)
    case.assertEqual(sum(times for group, times in told[1]), sum(times for group, times in told[2]))
    case.assertGreaterEqual(sum(times for group, times in told[1]), 1)
    for hand in range(many):
        case.assertEqual(times_with(told[1], hand, many), times_with(told[2], hand, many))


def see_told(case, table):
    """Which of the two is told, after it was seen that it holds."""
    told = weights_for(table)
    case.assertIs(type(told), tuple)
    case.assertIn(told[0], ("weights", "exchange"))
    {"weights": see_weights, "exchange": see_exchange}[told[0]](case, table, told)
    return told[0]


def some_votes(source, many, chance):
    return [0] + [int(source.random() < chance) for place in range(2 ** many - 1)]


def by_weights(quota, weights):
    return table_by(len(weights), lambda hands: int(sum(weights[hand] for hand in hands) >= quota))


def growing(source, many):
    """A table in which a group wins where a winning group is part of it."""
    least = source.choice([1, min(2, many)])
    cores = [source.sample(range(many), source.randint(least, min(3, many))) for core in range(source.randint(1, 5))]
    return table_by(many, lambda hands: int(any(set(core) <= hands for core in cores)))


class TestByHand(EndingCase):
    def test_one_hand(self):
        self.assertEqual(see_told(self, [0, 0]), "weights")
        self.assertEqual(see_told(self, [0, 1]), "weights")

    def test_two_hands(self):
        for table in ([0, 0, 0, 0], [0, 0, 0, 1], [0, 1, 0, 1], [0, 0, 1, 1], [0, 1, 1, 1], [0, 1, 0, 0], [0, 0, 1, 0]):
            with self.subTest(table=table):
                self.assertEqual(see_told(self, table), "weights")
        self.assertEqual(weights_for(table=[0, 1, 1, 0]),
                         ("exchange", [(1, 1), (2, 1)], [(0, 1), (3, 1)]))

    def test_three_hands(self):
        self.assertEqual(see_told(self, [0, 0, 0, 1, 0, 1, 1, 1]), "weights")
        self.assertEqual(see_told(self, [0, 1, 1, 0, 1, 0, 0, 1]), "exchange")

    def test_two_pairs(self):
        # Two pairs win, but by an exchange of one hand each neither has one any more.
        table = table_by(4, lambda hands: int({0, 1} <= hands or {2, 3} <= hands))
        self.assertEqual(see_told(self, table), "exchange")
        table = table_by(4, lambda hands: int({0, 1} <= hands or {0, 2} <= hands or {0, 3} <= hands))
        self.assertEqual(see_told(self, table), "weights")

    def test_nobody_wins(self):
        for many in range(1, 7):
            with self.subTest(many=many):
                self.assertEqual(see_told(self, [0] * 2 ** many), "weights")

    def test_all_but_nobody_win(self):
        for many in range(1, 7):
            with self.subTest(many=many):
                self.assertEqual(see_told(self, [0] + [1] * (2 ** many - 1)), "weights")

    def test_one_group_alone_wins_or_loses(self):
        for many in range(1, 7):
            for group in range(1, 2 ** many):
                with self.subTest(many=many, group=group):
                    table = [int(other == group) for other in range(2 ** many)]
                    self.assertEqual(see_told(self, table), "weights")
                    loses = [0] + [int(other != group) for other in range(1, 2 ** many)]
                    # Nobody loses, too: with a hand that only one of the two lacks it could not be told of weights.
                    wanted = "weights" if group in [2 ** hand for hand in range(many)] else "exchange"
                    self.assertEqual(see_told(self, loses), wanted)

    def test_odd_and_even(self):
        for many in range(2, 7):
            with self.subTest(many=many):
                self.assertEqual(see_told(self, [bin(group).count("1") % 2 for group in range(2 ** many)]), "exchange")


class TestEachTable(EndingCase):
    def test_all_of_one_to_three_hands(self):
        seen = {"weights": 0, "exchange": 0}
        for many in (1, 2, 3):
            for told in range(2 ** (2 ** many - 1)):
                table = [0] + [told // 2 ** place % 2 for place in range(2 ** many - 1)]
                with self.subTest(table=table):
                    seen[see_told(self, table)] += 1
        # Of the rules of up to three hands in which nobody loses, half of all that weights can tell (4, 14 and 104).
        self.assertEqual(seen, {"weights": 2 + 7 + 52, "exchange": 0 + 1 + 76})

    def test_drawn_tables(self):
        source = Random(501)
        seen = {"weights": 0, "exchange": 0}
        for many in range(2, 7):
            for turn in range(40):
                with self.subTest(many=many, turn=turn):
                    table = some_votes(source, many, source.choice([0.02, 0.1, 0.5, 0.9, 0.98]))
                    seen[see_told(self, table)] += 1
        self.assertGreater(min(seen.values()), 20)

    def test_told_by_weights(self):
        source = Random(502)
        for many in range(1, 7):
            for turn in range(40):
                bound = source.choice([1, 3, 10, 1000, SIXTY_NINES])
                weights = [source.randint(source.choice([0, -bound]), bound) for hand in range(many)]
                quota = source.choice([1, bound, source.randint(1, max(1, sum(weights)))])
                with self.subTest(quota=quota, weights=weights):
                    table = by_weights(quota, weights)
                    self.assertEqual(see_told(self, table), "weights")
                    if min(weights) >= 0:
                        self.assertEqual(Company(many, [Votes(quota, 1, weights)]).table(), table)

    def test_what_was_told_tells_the_same(self):
        source = Random(503)
        for many in range(1, 7):
            for turn in range(10):
                weights = [source.randint(-4, 9) for hand in range(many)]
                table = by_weights(source.randint(1, 9), weights)
                word, quota, weights = weights_for(table)
                with self.subTest(table=table):
                    self.assertEqual(word, "weights")
                    self.assertEqual(Company(many, [Votes(quota, 1, weights)]).table(), table)

    def test_one_group_changed(self):
        # Weights by which all groups differ, and a table in which one group beside the quota goes the other way.
        source = Random(504)
        seen = {"weights": 0, "exchange": 0}
        for many in range(2, 7):
            weights = [2 ** hand for hand in range(many)]
            for turn in range(20):
                table = by_weights(source.randint(1, 2 ** many - 1), weights)
                place = source.randrange(1, 2 ** many)
                table[place] = 1 - table[place]
                with self.subTest(table=table):
                    seen[see_told(self, table)] += 1
        self.assertGreater(min(seen.values()), 10)

    def test_growing_tables(self):
        source = Random(505)
        seen = {"weights": 0, "exchange": 0}
        for many in range(1, 7):
            for turn in range(40):
                with self.subTest(many=many, turn=turn):
                    seen[see_told(self, growing(source, many))] += 1
        self.assertGreater(min(seen.values()), 20)


class TestRefusals(EndingCase):
    def test_numbers_that_are_neither(self):
        for many in range(1, 7):
            for place in range(1, 2 ** many):
                for number in (2, -1, 3, -2, 10 ** 18, SIXTY_NINES, -SIXTY_NINES):
                    table = [0] + [group % 2 for group in range(1, 2 ** many)]
                    table[place] = number
                    before = list(table)
                    with self.subTest(many=many, place=place, number=number):
                        see_refused(self, "NoVotes", weights_for, table)
                        self.assertEqual(table, before)
            see_refused(self, "NoVotes", weights_for, [0] + [2] * (2 ** many - 1))

    def test_wrong_tables(self):
        see_tables_refused(self, weights_for)

    def test_no_table_goes_ahead(self):
        for thing in no_numbers():
            see_refused(self, "NoTable", weights_for, [0, 7, 1, thing])
            see_refused(self, "NoTable", weights_for, [0, thing, 1, 7])
        for table in ([7], [7, 7], [0, 7, 7], [1, 7, 7, 7], [0] + [7] * 127, [7] * 64, [0, 7, Stranger(), 1]):
            see_refused(self, "NoTable", weights_for, table)


class TestLists(EndingCase):
    def test_each_call(self):
        source = Random(511)
        seen = set()
        for many in range(1, 7):
            for turn in range(10):
                table = source.choice([some_votes(source, many, 0.5), growing(source, many)])
                seen.add(weights_for(table)[0])
                with self.subTest(table=table):
                    see_apart(self, weights_for, table)
        self.assertEqual(seen, {"weights", "exchange"})

    def test_what_is_refused_stays(self):
        table = [0, 1, 5, 1]
        see_refused(self, "NoVotes", weights_for, table)
        self.assertEqual(frozen(table), frozen([0, 1, 5, 1]))


if __name__ == "__main__":
    unittest.main()
