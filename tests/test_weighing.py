import unittest
from fractions import Fraction
from random import Random

from helper import (SIXTY_NINES, EndingCase, Stranger, frozen, no_numbers, see_apart, see_fractions, see_refused,
                    some_number)
from shareparley.weighing import weigh

EIGHTEEN = 10 ** 18 - 1


def price(numbers, prices):
    return sum((number * one for number, one in zip(numbers, prices, strict=True)), Fraction(0))


def total_at(columns, weights, place):
    return sum((column[place] * weight for column, weight in zip(columns, weights, strict=True)), Fraction(0))


def see_meeting(case, columns, due, weights):
    """Fractions from 0 on, by which the columns add up to due at each place."""
    for weight in weights:
        case.assertGreaterEqual(weight, 0)
    for place, number in enumerate(due):
        case.assertEqual(total_at(columns, weights, place), number)


def see_best(case, columns, due, gains, told):
    case.assertEqual(len(told), 3)
    weights = see_fractions(case, told[1], len(columns))
    prices = see_fractions(case, told[2], len(due))
    see_meeting(case, columns, due, weights)
    for column, gain in zip(columns, gains, strict=True):
        case.assertGreaterEqual(price(column, prices), gain)
    case.assertEqual(price(due, prices), price(gains, weights))


def see_none(case, columns, due, gains, told):
    case.assertEqual(len(told), 2)
    prices = see_fractions(case, told[1], len(due))
    for column in columns:
        case.assertGreaterEqual(price(column, prices), 0)
    case.assertLess(price(due, prices), 0)


def see_endless(case, columns, due, gains, told):
    case.assertEqual(len(told), 3)
    see_meeting(case, columns, due, see_fractions(case, told[1], len(columns)))
    way = see_fractions(case, told[2], len(columns))
    see_meeting(case, columns, [0] * len(due), way)
    case.assertGreater(price(gains, way), 0)


def see_weighed(case, columns, due, gains):
    """Which of the three things holds, after it was seen that it does."""
    told = weigh(columns, due, gains)
    case.assertIs(type(told), tuple)
    case.assertIs(type(told[0]), str)
    case.assertIn(told[0], ("best", "none", "endless"))
    {"best": see_best, "none": see_none, "endless": see_endless}[told[0]](case, columns, due, gains, told)
    return told[0]


def some_rows(source, places, many, bound):
    columns = [[source.randint(-bound, bound) for place in range(places)] for column in range(many)]
    due = [source.randint(-bound, bound) for place in range(places)]
    return columns, due, [source.randint(-bound, bound) for column in range(many)]


def sum_of_columns(source, columns, places, bound):
    """Due that is met by whole weights, most of them 0."""
    weights = [source.choice([0, 0, source.randint(0, bound)]) for column in columns]
    return [sum(column[place] * weight for column, weight in zip(columns, weights)) for place in range(places)]


def with_slack(rows, due):
    """Columns of a list of rows, each row with a column of its own behind them that takes up what is left."""
    columns = [list(column) for column in zip(*rows)]
    return columns + [[int(place == other) for other in range(len(due))] for place in range(len(due))]


class TestByHand(EndingCase):
    def test_best(self):
        self.assertEqual(weigh([[2]], [3], [5]), ("best", [(3, 2)], [(5, 2)]))
        self.assertEqual(weigh(columns=[[1], [2]], due=[4], gains=[1, 3]), ("best", [(0, 1), (2, 1)], [(3, 2)]))
        self.assertEqual(weigh([[1, 0], [0, 1]], [2, 3], [-1, 4]), ("best", [(2, 1), (3, 1)], [(-1, 1), (4, 1)]))
        self.assertEqual(weigh([[-1]], [-2], [7]), ("best", [(2, 1)], [(-7, 1)]))
        self.assertEqual(weigh([[3], [3]], [2], [0, 1])[:2], ("best", [(0, 1), (2, 3)]))

    def test_none(self):
        for columns, due, gains in [([[1]], [-1], [0]), ([[0]], [1], [5]), ([[1, 1]], [1, 2], [0]),
                                    ([[2, 1]], [0, 1], [9]), ([[1, -1], [-1, 1]], [1, 1], [1, 1]),
                                    ([[1, 0], [1, 1]], [1, 2], [3, 3])]:
            with self.subTest(columns=columns):
                self.assertEqual(see_weighed(self, columns, due, gains), "none")

    def test_endless(self):
        for columns, due, gains in [([[0]], [0], [1]), ([[1], [-1]], [5], [1, 0]), ([[1], [-1]], [-5], [3, -2]),
                                    ([[1], [0]], [0], [-1, 1]), ([[1, 0], [-1, 0], [0, 1]], [1, 1], [1, 1, 1])]:
            with self.subTest(columns=columns):
                self.assertEqual(see_weighed(self, columns, due, gains), "endless")

    def test_a_way_that_gains_nought_is_not_endless(self):
        self.assertEqual(see_weighed(self, [[1], [-1]], [5], [1, -1]), "best")
        self.assertEqual(see_weighed(self, [[1], [-1]], [5], [1, -2]), "best")
        self.assertEqual(see_weighed(self, [[0]], [0], [0]), "best")
        self.assertEqual(see_weighed(self, [[0]], [0], [-3]), "best")

    def test_none_goes_ahead_of_a_way(self):
        # A way would gain without end, but no weights meet due to begin with.
        self.assertEqual(see_weighed(self, [[1, 0], [-1, 0]], [0, 1], [1, 1]), "none")
        self.assertEqual(see_weighed(self, [[0, 0]], [0, 1], [1]), "none")

    def test_one_less_is_not_met(self):
        self.assertEqual(see_weighed(self, [[1, 1], [1, 2]], [10, 10], [0, 0]), "best")
        self.assertEqual(see_weighed(self, [[1, 1], [1, 2]], [10, 9], [0, 0]), "none")
        self.assertEqual(see_weighed(self, [[1, 1], [1, 2]], [10, 20], [0, 0]), "best")
        self.assertEqual(see_weighed(self, [[1, 1], [1, 2]], [10, 21], [0, 0]), "none")


class TestNoColumns(EndingCase):
    def test_each_number_of_places(self):
        for places in range(1, 9):
            with self.subTest(places=places):
                told = weigh([], [0] * places, [])
                self.assertEqual(see_weighed(self, [], [0] * places, []), "best")
                self.assertEqual(told[1], [])
                for place in range(places):
                    for number in (1, -1, EIGHTEEN, -SIXTY_NINES):
                        due = [0] * places
                        due[place] = number
                        self.assertEqual(see_weighed(self, [], due, []), "none")


class TestDrawn(EndingCase):
    def test_all_small_ones_of_one_place(self):
        numbers = range(-1, 2)
        for due in range(-2, 3):
            for one in numbers:
                for other in numbers:
                    for gains in [(first, second) for first in numbers for second in numbers]:
                        with self.subTest(due=due, one=one, other=other, gains=gains):
                            see_weighed(self, [[one], [other]], [due], list(gains))

    def test_small_numbers(self):
        source = Random(201)
        seen = {"best": 0, "none": 0, "endless": 0}
        for turn in range(1500):
            places = source.randint(1, 8)
            columns, due, gains = some_rows(source, places, source.randint(0, 9), source.choice([1, 2, 5]))
            if source.randrange(3):
                due = sum_of_columns(source, columns, places, 2)
            with self.subTest(turn=turn):
                seen[see_weighed(self, columns, due, gains)] += 1
        self.assertGreater(min(seen.values()), 200)

    def test_many_columns(self):
        source = Random(202)
        seen = {"best": 0, "none": 0, "endless": 0}
        for turn in range(120):
            places = source.randint(1, 8)
            columns, due, gains = some_rows(source, places, source.randint(40, 70), source.choice([1, 3, 100]))
            if source.randrange(3):
                columns = [[abs(number) for number in column] for column in columns]
            if source.randrange(3):
                due = sum_of_columns(source, columns, places, 2)
            with self.subTest(turn=turn):
                seen[see_weighed(self, columns, due, gains)] += 1
        self.assertGreater(min(seen.values()), 10)

    def test_great_numbers(self):
        source = Random(203)
        seen = {"best": 0, "none": 0, "endless": 0}
        for turn in range(100):
            places = source.randint(1, 8)
            columns, due, gains = some_rows(source, places, source.randint(1, 12), EIGHTEEN)
            if source.randrange(2):
                columns = [[abs(number) for number in column] for column in columns]
            if source.randrange(3):
                due = sum_of_columns(source, columns, places, EIGHTEEN)
            with self.subTest(turn=turn):
                seen[see_weighed(self, columns, due, gains)] += 1
        self.assertGreater(min(seen.values()), 10)

    def test_seventy_columns_of_eighteen_figures(self):
        source = Random(204)
        for turn in range(3):
            columns, due, gains = some_rows(source, 8, 70, EIGHTEEN)
            with self.subTest(turn=turn):
                see_weighed(self, columns, due, gains)
                columns = [[abs(number) for number in column] for column in columns]
                due = sum_of_columns(source, columns, 8, EIGHTEEN)
                self.assertEqual(see_weighed(self, columns, due, gains), "best")

    def test_numbers_of_all_sizes(self):
        source = Random(205)
        for turn in range(60):
            places = source.randint(1, 5)
            columns = [[some_number(source) for place in range(places)] for column in range(source.randint(0, 9))]
            with self.subTest(turn=turn):
                due = source.choice([sum_of_columns(source, columns, places, 3),
                                     [some_number(source) for place in range(places)]])
                see_weighed(self, columns, due, [some_number(source) for column in columns])


class TestMade(EndingCase):
    """Lists made so that it is known what holds."""

    def test_bounded_by_prices(self):
        source = Random(211)
        for turn in range(150):
            places = source.randint(1, 8)
            columns = some_rows(source, places, source.randint(0, 30), source.choice([1, 4, EIGHTEEN]))[0]
            prices = [source.randint(-5, 5) for place in range(places)]
            gains = [price(column, prices) - source.choice([0, 0, 1, 7]) for column in columns]
            due = sum_of_columns(source, columns, places, 3)
            with self.subTest(turn=turn):
                self.assertEqual(see_weighed(self, columns, due, [int(gain) for gain in gains]), "best")

    def test_kept_off_by_prices(self):
        source = Random(212)
        for turn in range(150):
            places = source.randint(1, 8)
            columns, due, gains = some_rows(source, places, source.randint(0, 30), 4)
            prices = [source.randint(-5, 5) for place in range(places)]
            columns = [column if price(column, prices) >= 0 else [-number for number in column] for column in columns]
            due = due if price(due, prices) <= 0 else [-number for number in due]
            if price(due, prices) == 0:
                continue
            with self.subTest(turn=turn):
                self.assertEqual(see_weighed(self, columns, due, gains), "none")

    def test_a_way_without_end(self):
        source = Random(213)
        for turn in range(150):
            places = source.randint(1, 8)
            columns, due, gains = some_rows(source, places, source.randint(1, 20), source.choice([1, 4, EIGHTEEN]))
            way = [source.randint(1, 3) for column in columns]
            columns.append([-int(total_at(columns, way, place)) for place in range(places)])
            gains.append(1 - int(price(gains, way)))
            due = sum_of_columns(source, columns, places, 3)
            with self.subTest(turn=turn):
                self.assertEqual(see_weighed(self, columns, due, gains), "endless")


class TestTies(EndingCase):
    """Lists in which much is alike, or tells the same as something else."""

    def test_columns_alike(self):
        source = Random(221)
        for turn in range(100):
            places = source.randint(1, 6)
            columns, due, gains = some_rows(source, places, source.randint(1, 6), 2)
            columns = [list(source.choice(columns)) for column in range(source.randint(7, 70))]
            gains = [source.choice([0, 1]) for column in columns]
            due = source.choice([due, sum_of_columns(source, columns, places, 2)])
            with self.subTest(turn=turn):
                see_weighed(self, columns, due, gains)
        column = [3, -1, 2]
        self.assertEqual(see_weighed(self, [list(column) for turn in range(70)], column, [4] * 70), "best")
        self.assertEqual(see_weighed(self, [column] * 70, column, [4] * 70), "best")

    def test_columns_of_noughts(self):
        source = Random(222)
        for turn in range(100):
            places = source.randint(1, 8)
            columns, due, gains = some_rows(source, places, source.randint(0, 9), 3)
            for more in range(source.randint(1, 5)):
                place = source.randint(0, len(columns))
                columns.insert(place, [0] * places)
                gains.insert(place, source.choice([0, 0, -1, 1]))
            with self.subTest(turn=turn):
                see_weighed(self, columns, source.choice([due, [0] * places]), gains)
        for places in range(1, 9):
            noughts = [[0] * places for column in range(70)]
            with self.subTest(places=places):
                self.assertEqual(see_weighed(self, noughts, [0] * places, [0] * 69 + [1]), "endless")
                self.assertEqual(see_weighed(self, noughts, [0] * places, [0] * 69 + [-1]), "best")
                self.assertEqual(see_weighed(self, noughts, [0] * (places - 1) + [-1], [1] * 70), "none")

    def test_places_that_tell_the_same(self):
        source = Random(223)
        seen = {"best": 0, "none": 0, "endless": 0}
        for turn in range(300):
            first = source.randint(1, 4)
            columns, due, gains = some_rows(source, first, source.randint(0, 9), 2)
            due = source.choice([due, sum_of_columns(source, columns, first, 2)])
            for more in range(source.randint(1, 8 - first)):
                factors = [source.randint(-2, 2) for place in range(first)]
                for column in columns:
                    column.append(int(price(column[:first], factors)))
                due = due + [int(price(due[:first], factors)) + source.choice([0, 0, 0, 0, 0, 0, 1])]
            order = source.sample(range(len(due)), len(due))
            columns = [[column[place] for place in order] for column in columns]
            with self.subTest(turn=turn):
                seen[see_weighed(self, columns, [due[place] for place in order], gains)] += 1
        self.assertGreater(min(seen.values()), 30)

    def test_due_of_noughts(self):
        source = Random(224)
        seen = {"best": 0, "none": 0, "endless": 0}
        for turn in range(300):
            places = source.randint(1, 8)
            columns, due, gains = some_rows(source, places, source.randint(0, 3 * places), source.choice([1, 2, 9]))
            with self.subTest(turn=turn):
                seen[see_weighed(self, columns, [0] * places, gains)] += 1
        self.assertEqual(seen["none"], 0)
        self.assertGreater(min(seen["best"], seen["endless"]), 50)

    def test_due_below_nought(self):
        source = Random(225)
        for turn in range(100):
            places = source.randint(1, 8)
            columns, due, gains = some_rows(source, places, source.randint(0, 12), 3)
            columns = [[-abs(number) for number in column] for column in columns]
            due = source.choice([[-abs(number) for number in due], sum_of_columns(source, columns, places, 3)])
            with self.subTest(turn=turn):
                see_weighed(self, columns, due, gains)

    def test_many_ties_with_room(self):
        source = Random(226)
        for turn in range(200):
            places = source.randint(3, 8)
            many = source.choice([6, 12])
            rows = [[source.randint(-2, 2) for column in range(many)] for place in range(places)]
            due = [source.choice([0, 0, 0, 1]) for place in range(places)]
            columns = with_slack(rows, due)
            gains = [source.randint(-2, 2) for column in range(many)] + [0] * places
            with self.subTest(turn=turn):
                self.assertIn(see_weighed(self, columns, due, gains), ("best", "endless"))


class TestRoundAndRound(EndingCase):
    """Lists on which taking the column that gains most, or another plain choice, leads round and round."""

    # Rows without what is left of them, the number that this is taken times, due, and gains.
    LISTS = [
        ([[1, -11, -5, 18], [1, -3, -1, 2], [1, 0, 0, 0]], [2, 2, 1], [0, 0, 1], [10, -57, -9, -24]),
        ([[1, -32, -4, 36], [1, -24, -1, 6], [0, 0, 1, 0]], [4, 2, 1], [0, 0, 1], [3, -80, 2, -24]),
        ([[25, -6000, -4, 900], [50, -9000, -2, 300], [0, 0, 1, 0]], [100, 100, 1], [0, 0, 1], [75, -15000, 2, -600]),
        ([[-2, -9, 1, 9], [1, 3, -1, -6]], [1, 1], [0, 0], [2, 3, -1, -12]),
        ([[-2, -9, 1, 9], [1, 3, -1, -6]], [1, 3], [0, 0], [2, 3, -1, -12]),
        ([[-2, -9, 1, 9], [1, 3, -1, -6], [2, 3, -1, -12]], [1, 3, 1], [0, 0, 2], [2, 3, -1, -12]),
        ([[1, -2, -3, 4], [4, -3, -2, 1], [1, 1, 1, 1]], [1, 1, 1], [0, 0, 1], [3, -5, 1, -2]),
    ]

    def lists(self, rows, often, due, factor, again):
        """The columns and due, what is left of the last row taken some times more, and a row that undoes others."""
        columns = with_slack(rows, due)
        for place in range(len(due)):
            times = often[place] * (factor if due[place] else 1)
            columns[len(rows[0]) + place][place] = times
        if again:
            noughts = [place for place, number in enumerate(due) if number == 0]
            columns = [column + [-sum(column[place] for place in noughts)] for column in columns]
            due = due + [0]
        return columns, due

    def test_many_orders_of_columns(self):
        source = Random(231)
        for rows, often, due, gains in self.LISTS:
            gains = gains + [0] * len(due)
            for factor, again in [(1, False), (1, True), (3, False), (3, True)]:
                columns, met = self.lists(rows, often, due, factor, again)
                for turn in range(150):
                    order = source.sample(range(len(columns)), len(columns)) if turn else list(range(len(columns)))
                    with self.subTest(rows=rows, order=order):
                        see_weighed(self, [columns[place] for place in order], met, [gains[place] for place in order])

    def test_known_gains(self):
        for place, wanted in [(0, 1), (1, 5), (2, 5)]:
            rows, often, due, gains = self.LISTS[place]
            columns, met = self.lists(rows, often, due, 1, False)
            told = weigh(columns, met, gains + [0] * len(due))
            with self.subTest(place=place):
                self.assertEqual(told[0], "best")
                self.assertEqual(price(due, [Fraction(*one) for one in told[2]]), wanted)


class TestNoRows(EndingCase):
    GOOD = ([[1, 2], [3, 4], [0, -1]], [5, 6], [7, 8, 9])

    def see_not(self, columns, due, gains):
        handed = [columns, due, gains]
        before = [len(thing) for thing in handed]
        see_refused(self, "NoRows", weigh, *handed)
        self.assertEqual([len(thing) for thing in handed], before)

    def test_due_of_another_length(self):
        self.see_not([], [], [])
        self.see_not([[]], [], [1])
        self.see_not([[], []], [], [0, 0])
        for long in (9, 10, 64, 1000):
            self.see_not([], [0] * long, [])
            self.see_not([[1] * long], [1] * long, [1])

    def test_lengths_that_may_be(self):
        for long in range(1, 9):
            for many in (0, 1, 69, 70):
                with self.subTest(long=long, many=many):
                    self.assertEqual(see_weighed(self, [[1] * long] * many, [0] * long, [0] * many), "best")

    def test_too_many_columns(self):
        for many in (71, 72, 100, 10000):
            for places in (1, 8):
                self.see_not([[1] * places for column in range(many)], [1] * places, [1] * many)
                self.see_not([[1] * places for column in range(many)], [1] * places, [1] * 70)

    def test_columns_of_another_length(self):
        columns, due, gains = self.GOOD
        for place in range(3):
            for column in ([], [1], [1, 2, 3], [0] * 8, [0] * 9, [0] * 1000):
                wrong = [list(one) for one in columns]
                wrong[place] = column
                self.see_not(wrong, due, gains)
        self.see_not([[1], [2], [3]], due, gains)
        self.see_not([[1, 2, 3]] * 3, due, gains)
        self.see_not(columns, [5], gains)
        self.see_not(columns, [5, 6, 7], gains)

    def test_gains_of_another_length(self):
        columns, due, gains = self.GOOD
        for wrong in ([], [1], [1, 2], [1, 2, 3, 4], [0] * 70, [0] * 71, [0] * 1000):
            self.see_not(columns, due, wrong)
        self.see_not([], due, [1])
        self.see_not(columns[:2], due, gains)

    def test_things_that_are_no_numbers(self):
        columns, due, gains = self.GOOD
        for thing in no_numbers() + [(1, 1), (0, 1), "0"]:
            for place in range(3):
                for within in range(2):
                    wrong = [list(one) for one in columns]
                    wrong[place][within] = thing
                    self.see_not(wrong, due, gains)
                wrong = list(gains)
                wrong[place] = thing
                self.see_not(columns, due, wrong)
            for place in range(2):
                wrong = list(due)
                wrong[place] = thing
                self.see_not(columns, wrong, gains)
            self.see_not([], [thing], [])
            self.see_not([[thing]], [thing], [thing])
            self.see_not([[1]], [1], [thing])
            self.see_not([[thing]], [1], [1])
            self.see_not([], [0], [thing])
            self.see_not([], [thing] * 9, [thing] * 71)

    def test_a_truth_in_the_last_place(self):
        for truth in (True, False):
            self.see_not([[1] * 8 for column in range(69)] + [[1] * 7 + [truth]], [1] * 8, [1] * 70)
            self.see_not([[1] * 8 for column in range(70)], [1] * 7 + [truth], [1] * 70)
            self.see_not([[1] * 8 for column in range(70)], [1] * 8, [1] * 69 + [truth])

    def test_what_is_refused_stays(self):
        for handed in ([[[1, 2], [3]], [1, 2], [1, 1]], [[[1, 2]], [1, True], [1]], [[[1, 2]], [1, 2], [1, None]]):
            before = frozen(handed)
            see_refused(self, "NoRows", weigh, *handed)
            self.assertEqual(frozen(handed), before)
        stranger = Stranger()
        handed = [[1, stranger]]
        see_refused(self, "NoRows", weigh, handed, [1, 2], [1])
        self.assertIs(handed[0][1], stranger)


class TestLists(EndingCase):
    def test_each_answer(self):
        source = Random(241)
        seen = {"best": 0, "none": 0, "endless": 0}
        for turn in range(90):
            columns, due, gains = some_rows(source, source.randint(1, 5), source.randint(0, 9), 2)
            with self.subTest(turn=turn):
                seen[weigh(columns, due, gains)[0]] += 1
                see_apart(self, weigh, columns, due, gains)
        self.assertGreater(min(seen.values()), 5)

    def test_one_list_handed_in_thrice(self):
        numbers = [1]
        self.assertEqual(weigh([numbers], numbers, numbers), ("best", [(1, 1)], [(1, 1)]))
        self.assertEqual(numbers, [1])


if __name__ == "__main__":
    unittest.main()
