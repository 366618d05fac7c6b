import unittest
from fractions import Fraction
from random import Random

from helper import (SIXTY_NINES, EndingCase, frozen, hands_within, members, see_apart, see_fraction, see_fractions,
                    see_rising, see_tables_refused, see_weighing, shares_by_group, small_table, some_number,
                    some_table, some_tables, table_by)
from shareparley.best import Match, Net
from shareparley.calm import calm
from shareparley.companies import Company
from shareparley.deals import beside
from shareparley.orders import alike, idle
from shareparley.rules import Own, Pairs, Votes
from shareparley.stable import bettering, stable

EIGHTEEN = 10 ** 18 - 1


def as_pairs(numbers):
    return [(Fraction(number).numerator, Fraction(number).denominator) for number in numbers]


def see_levels(case, table, shares, levels):
    """The levels are all lacks from the greatest down to the last one told, each with a weighing as it should be."""
    many = hands_within(table)
    by_group = shares_by_group(shares)
    lacks = {group: table[group] - by_group[group] for group in range(1, 2 ** many - 1)}
    falling = sorted(set(lacks.values()), reverse=True)
    case.assertIs(type(levels), list)
    case.assertLessEqual(len(levels), len(falling))
    for place, level in enumerate(levels):
        case.assertIs(type(level), tuple)
        case.assertEqual(len(level), 2)
        case.assertEqual(see_fraction(case, level[0]), falling[place])
        weights = see_weighing(case, level[1], many)
        case.assertEqual(list(weights), [group for group in lacks if lacks[group] >= falling[place]])


def see_keys(case, many, levels, keys):
    """For each hand factors of groups of the last weighing and of the whole company, which tell its share alone."""
    case.assertIs(type(keys), list)
    case.assertEqual(len(keys), many)
    allowed = [2 ** many - 1] + ([group for group, weight in levels[-1][1]] if levels else [])
    for hand, key in enumerate(keys):
        see_rising(case, key, 1, 2 ** many - 1)
        factors = {group: see_fraction(case, factor) for group, factor in key}
        case.assertNotIn(0, factors.values())
        case.assertEqual([group for group in factors if group not in allowed], [])
        for other in range(many):
            total = sum(factor for group, factor in factors.items() if other in members(group, many))
            case.assertEqual(total, 1 if other == hand else 0)


def see_calm(case, table):
    """The calm shares, after it was seen, word for word, that they are."""
    many = hands_within(table)
    told = calm(table)
    case.assertIs(type(told), tuple)
    case.assertEqual(len(told), 3)
    shares = see_fractions(case, told[0], many)
    case.assertEqual(sum(shares), table[-1])
    see_levels(case, table, shares, told[1])
    see_keys(case, many, told[1], told[2])
    return told[0]


def tables_alike(seed):
    """Tables in which many groups lack equally much: by size alone, or by the sorts of their hands."""
    source = Random(seed)
    found = []
    for many in range(1, 7):
        for turn in range(10):
            sorts = [source.randrange(source.choice([1, 2, 3])) for hand in range(many)]
            counts = {(): 0}
            bound = source.choice([1, 2, 9, EIGHTEEN])

            def earn(hands):
                key = tuple(sorted(sorts[hand] for hand in hands))
                return counts.setdefault(key, source.randint(-bound, bound))

            found.append(table_by(many, earn))
    return found


def layered_tables(seed):
    """Tables of few numbers, most of them alike: groups often lack as much as others that hold the level."""
    source = Random(seed)
    found = []
    for many in range(2, 7):
        for turn in range(25):
            rare = source.choice([2, 4, 8])
            found.append([0] + [0 if source.randrange(rare) else source.randint(-2, 2)
                                for place in range(2 ** many - 1)])
    return found


def numbered_anew(table, order):
    """The table in which hand order[n] of the old one is hand n."""
    many = len(order)
    return [table[sum(2 ** order[hand] for hand in members(group, many))] for group in range(2 ** many)]


def claims(estate, wanted):
    """What is left of an estate for each group when all others have taken what they want of it."""
    many = len(wanted)
    return table_by(many, lambda hands: max(0, estate - sum(wanted[hand] for hand in range(many)
                                                             if hand not in hands)))


class TestByHand(EndingCase):
    def test_one_hand(self):
        for number in (0, 1, -1, 7, EIGHTEEN, -SIXTY_NINES):
            self.assertEqual(calm([0, number]), ([(number, 1)], [], [[(1, (1, 1))]]))

    def test_two_hands_in_full(self):
        shares, levels, keys = calm([0, 1, 2, 10])
        self.assertEqual(shares, [(9, 2), (11, 2)])
        self.assertEqual(levels, [((-7, 2), [(1, (1, 1)), (2, (1, 1))])])
        self.assertIn(keys[0], ([(1, (1, 1))], [(2, (-1, 1)), (3, (1, 1))]))
        self.assertIn(keys[1], ([(2, (1, 1))], [(1, (-1, 1)), (3, (1, 1))]))

    def test_two_hands(self):
        source = Random(401)
        for turn in range(100):
            one, other, both = [source.choice([some_number(source), source.randint(-9, 9)]) for place in range(3)]
            with self.subTest(one=one, other=other, both=both):
                wanted = [Fraction(both + one - other, 2), Fraction(both + other - one, 2)]
                self.assertEqual(see_calm(self, [0, one, other, both]), as_pairs(wanted))

    def test_small_ones(self):
        self.assertEqual(see_calm(self, [0, 0, 0, 1, 0, 1, 1, 1]), [(1, 3)] * 3)
        self.assertEqual(see_calm(self, [0, 0, 0, 1, 0, 1, 0, 1]), [(1, 1), (0, 1), (0, 1)])
        self.assertEqual(see_calm(self, [0, 0, 0, 0, 0, 0, 0, 6]), [(2, 1)] * 3)
        self.assertEqual(calm(table=[0, 3, 4, 7])[0], [(3, 1), (4, 1)])

    def test_an_estate_and_claims(self):
        for estate, wanted in [(100, ["100/3"] * 3), (200, ["50", "75", "75"]), (300, ["50", "100", "150"]),
                               (400, ["50", "125", "225"]), (500, ["200/3", "500/3", "800/3"]),
                               (600, ["100", "200", "300"]), (50, ["50/3"] * 3)]:
            with self.subTest(estate=estate):
                self.assertEqual(see_calm(self, claims(estate, [100, 200, 300])), as_pairs(wanted))
        self.assertEqual(see_calm(self, claims(30, [10, 20, 30])), as_pairs([5, 10, 15]))
        self.assertEqual(see_calm(self, claims(5, [7])), as_pairs([5]))

    def test_votes(self):
        # One hand with a veto and four without; then weights that stand for the votes themselves.
        self.assertEqual(see_calm(self, Company(4, [Votes(4, 6, [3, 1, 1, 1])]).table()), as_pairs([6, 0, 0, 0]))
        self.assertEqual(see_calm(self, Company(5, [Votes(3, 5, [1] * 5)]).table()), as_pairs([1] * 5))
        self.assertEqual(see_calm(self, Company(4, [Votes(3, 5, [2, 1, 1, 1])]).table()), as_pairs([2, 1, 1, 1]))
        self.assertEqual(see_calm(self, Company(6, [Votes(4, 7, [2, 1, 1, 1, 1, 1])]).table()),
                         as_pairs([2, 1, 1, 1, 1, 1]))


class TestEachTable(EndingCase):
    def test_all_of_noughts_and_ones(self):
        for many in (1, 2, 3):
            for told in range(2 ** (2 ** many - 1)):
                table = [0] + [told // 2 ** place % 2 for place in range(2 ** many - 1)]
                with self.subTest(table=table):
                    see_calm(self, table)

    def test_drawn_tables(self):
        for table in some_tables(411, each=8):
            with self.subTest(table=table):
                see_calm(self, table)

    def test_many_groups_that_lack_as_much(self):
        for table in tables_alike(412) + layered_tables(412):
            with self.subTest(table=table):
                see_calm(self, table)

    def test_noughts(self):
        for many in range(1, 7):
            with self.subTest(many=many):
                self.assertEqual(see_calm(self, [0] * 2 ** many), [(0, 1)] * many)
                told = calm([0] * 2 ** many)[1]
                self.assertEqual([level[0] for level in told], [(0, 1)] if many > 1 else [])

    def test_each_group_earns_its_hands_numbers(self):
        source = Random(413)
        for many in range(1, 7):
            for turn in range(5):
                numbers = [some_number(source) for hand in range(many)]
                table = Company(many, [Own(numbers)]).table()
                with self.subTest(many=many, turn=turn):
                    self.assertEqual(see_calm(self, table), as_pairs(numbers))
                    told = calm(table)[1]
                    self.assertEqual([level[0] for level in told], [(0, 1)] if many > 1 else [])
                    self.assertEqual([len(level[1]) for level in told], [2 ** many - 2] if many > 1 else [])

    def test_near_to_such_tables(self):
        # One group earns somewhat more or less: groups beside it lack nought, some of them by chance alone.
        for many in range(2, 7):
            for group in range(1, 2 ** many - 1, 1 if many < 6 else 3):
                for more in (1, -1):
                    table = Company(many, [Own(list(range(many)))]).table()
                    table[group] += more
                    with self.subTest(many=many, group=group, more=more):
                        see_calm(self, table)

    def test_great_numbers(self):
        source = Random(414)
        for many in range(1, 7):
            for turn in range(6):
                with self.subTest(many=many, turn=turn):
                    see_calm(self, small_table(source, many, EIGHTEEN))
                    see_calm(self, some_table(source, many))

    def test_rules(self):
        source = Random(415)
        for many in range(1, 7):
            pairs = [(one, other, source.randint(0, 9)) for other in range(many) for one in range(other)]
            numbers = [source.randint(0, 9) for hand in range(many)]
            for rule in (Pairs(many, pairs), Match(many, pairs), Net(numbers, pairs), Votes(3 * many, 1, numbers)):
                with self.subTest(many=many, rule=rule):
                    see_calm(self, Company(many, [rule]).table())

    def test_levels_of_many_sizes(self):
        seen = set()
        for table in some_tables(416, each=4) + layered_tables(416):
            seen.add(len(calm(table)[1]))
        self.assertLessEqual({0, 1, 2, 3, 4, 5}, seen)


class TestBesideTheRest(EndingCase):
    """How calm shares stand to what other modules tell, and to other tables."""

    def tables(self, seed):
        return some_tables(seed, each=3) + tables_alike(seed)[::3] + layered_tables(seed)[::8]

    def test_stable_where_any_shares_are(self):
        seen = {"shares": 0, "weighing": 0}
        for table in self.tables(421):
            for whole in (table[-1], abs(table[-1]) + 3 * max(table)):
                lifted = table[:-1] + [whole]
                word = stable(lifted)[0]
                told = bettering(lifted, calm(lifted)[0])
                seen[word] += 1
                with self.subTest(table=lifted):
                    self.assertEqual(told == [], word == "shares")
        self.assertGreater(min(seen.values()), 30)

    def test_alike_and_idle(self):
        seen = 0
        for table in tables_alike(422):
            shares = calm(table)[0]
            with self.subTest(table=table):
                for hand, least in enumerate(alike(table)):
                    self.assertEqual(shares[hand], shares[least])
                    seen += hand != least
        self.assertGreater(seen, 40)

    def test_taken_some_times(self):
        source = Random(423)
        for table in self.tables(423):
            factor = source.choice([1, 2, 7, EIGHTEEN])
            wanted = [Fraction(*share) * factor for share in calm(table)[0]]
            with self.subTest(table=table, factor=factor):
                self.assertEqual(see_calm(self, [number * factor for number in table]), as_pairs(wanted))

    def test_a_number_laid_to_each_hand(self):
        source = Random(424)
        for table in self.tables(424):
            many = hands_within(table)
            numbers = [some_number(source) for hand in range(many)]
            moved = [number + sum(numbers[hand] for hand in members(group, many)) for group, number in enumerate(table)]
            wanted = [Fraction(*share) + number for share, number in zip(calm(table)[0], numbers)]
            with self.subTest(table=table):
                self.assertEqual(see_calm(self, moved), as_pairs(wanted))

    def test_hands_numbered_anew(self):
        source = Random(425)
        for table in self.tables(425):
            order = source.sample(range(hands_within(table)), hands_within(table))
            shares = calm(table)[0]
            with self.subTest(table=table, order=order):
                self.assertEqual(see_calm(self, numbered_anew(table, order)), [shares[hand] for hand in order])

    def test_beside_hands_that_earn_their_own(self):
        source = Random(426)
        for many in range(1, 6):
            for turn in range(5):
                table = Company(many, [Pairs(many, [(one, other, source.randint(0, 9)) for other in range(many)
                                                    for one in range(other)])]).table()
                with self.subTest(many=many, turn=turn):
                    # Nobody gains by a hand that adds its own number everywhere: it has just that.
                    self.assertEqual(see_calm(self, beside(table, [0, 4])), calm(table)[0] + [(4, 1)])
                    self.assertEqual(idle(beside(table, [0, 0]))[-1], many)
                    self.assertEqual(see_calm(self, beside(table, [0, 0]))[-1], (0, 1))


class TestRefusals(EndingCase):
    def test_wrong_tables(self):
        see_tables_refused(self, calm)


class TestLists(EndingCase):
    def test_each_call(self):
        for table in some_tables(431, each=2) + layered_tables(431)[::6]:
            with self.subTest(table=table):
                see_apart(self, calm, list(table))

    def test_a_table_changed_later(self):
        table = [0, 1, 2, 10]
        told = calm(table)
        before = frozen(told)
        table[3] = 20
        self.assertEqual(frozen(told), before)
        self.assertEqual(calm(table)[0], [(19, 2), (21, 2)])


if __name__ == "__main__":
    unittest.main()
