import unittest
from fractions import Fraction
from math import gcd, lcm
from random import Random

from helper import Stranger, no_numbers, see_refused
from shareparley.fractions import (common_bottom, fraction, is_fraction, minus, parted, plus, times, tops_over,
                                   under)

SIXTY_NINES = 10 ** 60 - 1
# The last two share the great divisor 10 ** 29 + 7.
GREAT = [SIXTY_NINES, 10 ** 59, 2 ** 199, 3 ** 125, 6 * (10 ** 29 + 7), (10 ** 29 + 7) * (10 ** 30 - 3)]


def tops():
    small = list(range(-13, 14))
    return small + GREAT + [-number for number in GREAT]


def pairs_of_numbers():
    return [(top, bottom) for top in tops() for bottom in tops() if bottom != 0]


def some_fractions():
    small = [(top, bottom) for bottom in range(1, 6) for top in range(-7, 8) if gcd(top, bottom) == 1]
    great = [(SIXTY_NINES, 1), (-SIXTY_NINES, 2), (1, SIXTY_NINES), (-1, SIXTY_NINES - 1),
             (SIXTY_NINES - 1, SIXTY_NINES), (2 ** 199, 3 ** 125), (-(3 ** 125), 2 ** 199)]
    return small + great


def pairs_of_fractions():
    return [(one, other) for one in some_fractions() for other in some_fractions()]


class FractionCase(unittest.TestCase):
    def see_fraction(self, told, wanted):
        """The told thing is the very pair of plain ints that stands for the wanted number."""
        self.assertIs(type(told), tuple)
        self.assertEqual([type(number) for number in told], [int, int])
        self.assertEqual(told, (wanted.numerator, wanted.denominator))


class TestFraction(FractionCase):
    def test_edges(self):
        self.assertEqual(fraction(4, -6), (-2, 3))
        self.assertEqual(fraction(-4, 6), (-2, 3))
        self.assertEqual(fraction(-4, -6), (2, 3))
        self.assertEqual(fraction(4, 6), (2, 3))
        self.assertEqual(fraction(7, 7), (1, 1))
        self.assertEqual(fraction(-7, 1), (-7, 1))
        self.assertEqual(fraction(7, -1), (-7, 1))

    def test_nought(self):
        for bottom in (1, -1, 2, -6, SIXTY_NINES, -SIXTY_NINES):
            with self.subTest(bottom=bottom):
                self.see_fraction(fraction(0, bottom), Fraction(0))

    def test_each_number_by_each_other(self):
        for top, bottom in pairs_of_numbers():
            with self.subTest(top=top, bottom=bottom):
                told = fraction(top, bottom)
                self.see_fraction(told, Fraction(top, bottom))
                self.assertGreaterEqual(told[1], 1)
                self.assertEqual(gcd(told[0], told[1]), 1)

    def test_no_number_is_refused(self):
        for place, thing in enumerate(no_numbers()):
            with self.subTest(place=place):
                see_refused(self, "NoNumber", fraction, thing, 3)
                see_refused(self, "NoNumber", fraction, 3, thing)
                see_refused(self, "NoNumber", fraction, 0, thing)
                see_refused(self, "NoNumber", fraction, thing, 0)
                see_refused(self, "NoNumber", fraction, thing, thing)

    def test_by_nought_is_refused(self):
        for top in (0, 1, -1, 4, SIXTY_NINES, -SIXTY_NINES):
            with self.subTest(top=top):
                see_refused(self, "NoNumber", fraction, top, 0)


class TestIsFraction(unittest.TestCase):
    def test_fractions_are(self):
        for thing in some_fractions() + [(0, 1), (1, 1), (-1, 1), (-2, 3)]:
            with self.subTest(thing=thing):
                self.assertIs(is_fraction(thing), True)

    def test_what_is_told_is(self):
        for top, bottom in pairs_of_numbers():
            with self.subTest(top=top, bottom=bottom):
                self.assertIs(is_fraction(fraction(top, bottom)), True)

    def test_each_small_pair(self):
        for top in range(-9, 10):
            for bottom in range(-9, 10):
                with self.subTest(top=top, bottom=bottom):
                    wanted = bottom >= 1 and gcd(top, bottom) == 1
                    self.assertIs(is_fraction((top, bottom)), wanted)

    def test_not_cut_down(self):
        shared = 10 ** 29 + 7
        for thing in [(0, 2), (0, 0), (0, -1), (2, 4), (-2, 4), (3, 3), (1, -2), (-1, -2), (1, 0),
                      (2 * shared, 3 * shared), (SIXTY_NINES, 3), (SIXTY_NINES, SIXTY_NINES)]:
            with self.subTest(thing=thing):
                self.assertIs(is_fraction(thing), False)

    def test_other_sorts(self):
        for place, thing in enumerate(no_numbers() + [0, 1, -3, SIXTY_NINES]):
            if isinstance(thing, tuple) and thing == (1, 2):
                continue
            with self.subTest(place=place):
                self.assertIs(is_fraction(thing), False)

    def test_other_lengths_and_lists(self):
        for thing in [(), (1,), (1, 2, 3), (1, 2, 1), [1, 2], [0, 1], "12", {1: 2}, {0: 1, 1: 2}, range(1, 3),
                      ((1, 2),), ((1, 2), (1, 3)), Fraction(1, 2)]:
            with self.subTest(thing=thing):
                self.assertIs(is_fraction(thing), False)

    def test_other_things_in_the_places(self):
        for place, thing in enumerate(no_numbers()):
            with self.subTest(place=place):
                self.assertIs(is_fraction((thing, 1)), False)
                self.assertIs(is_fraction((1, thing)), False)
                self.assertIs(is_fraction((thing, thing)), False)
        self.assertIs(is_fraction((Stranger(), 1)), False)


class TestReckoning(FractionCase):
    def test_edges(self):
        self.assertEqual(plus((1, 2), (1, 2)), (1, 1))
        self.assertEqual(plus((1, 6), (1, 3)), (1, 2))
        self.assertEqual(plus((1, 2), (-1, 2)), (0, 1))
        self.assertEqual(minus((1, 2), (3, 4)), (-1, 4))
        self.assertEqual(minus((3, 4), (1, 2)), (1, 4))
        self.assertEqual(minus((5, 7), (5, 7)), (0, 1))
        self.assertEqual(times((2, 3), (3, 2)), (1, 1))
        self.assertEqual(times((2, 3), (0, 1)), (0, 1))
        self.assertEqual(times((-2, 3), (-1, 2)), (1, 3))
        self.assertEqual(parted((1, 2), (-3, 4)), (-2, 3))
        self.assertEqual(parted((4, 1), (-6, 1)), (-2, 3))
        self.assertEqual(parted((0, 1), (-6, 1)), (0, 1))

    def test_each_with_each(self):
        for one, other in pairs_of_fractions():
            with self.subTest(one=one, other=other):
                first = Fraction(*one)
                second = Fraction(*other)
                self.see_fraction(plus(one, other), first + second)
                self.see_fraction(minus(one, other), first - second)
                self.see_fraction(times(one, other), first * second)
                if other != (0, 1):
                    self.see_fraction(parted(one, other), first / second)

    def test_parted_by_nought_is_refused(self):
        for one in some_fractions():
            with self.subTest(one=one):
                see_refused(self, "NoNumber", parted, one, (0, 1))


class TestUnder(unittest.TestCase):
    def test_edges(self):
        self.assertIs(under((1, 3), (1, 2)), True)
        self.assertIs(under((1, 2), (1, 3)), False)
        self.assertIs(under((-1, 2), (-1, 3)), True)
        self.assertIs(under((-1, 3), (-1, 2)), False)
        self.assertIs(under((0, 1), (0, 1)), False)
        self.assertIs(under((-1, SIXTY_NINES), (0, 1)), True)
        self.assertIs(under((0, 1), (1, SIXTY_NINES)), True)
        self.assertIs(under((SIXTY_NINES - 2, SIXTY_NINES - 1), (SIXTY_NINES - 1, SIXTY_NINES)), True)

    def test_each_with_each(self):
        for one, other in pairs_of_fractions():
            with self.subTest(one=one, other=other):
                self.assertIs(under(one, other), Fraction(*one) < Fraction(*other))


class TestCommonBottom(unittest.TestCase):
    def test_drawn_lists(self):
        source = Random(21)
        self.assertEqual(common_bottom([]), 1)
        for turn in range(200):
            chosen = source.sample(some_fractions(), source.randint(1, 6))
            bottom = common_bottom(chosen)
            tops = tops_over(bottom, chosen)
            with self.subTest(chosen=chosen):
                self.assertEqual(bottom, lcm(*[one[1] for one in chosen]))
                self.assertEqual([type(top) for top in tops], [int] * len(chosen))
                self.assertEqual([Fraction(top, bottom) for top in tops], [Fraction(*one) for one in chosen])


class TestHandedIn(unittest.TestCase):
    def test_what_is_handed_in_stays(self):
        one = (-3, 4)
        other = (5, 6)
        for call in (plus, minus, times, parted, under):
            with self.subTest(call=call.__name__):
                first = call(one, other)
                self.assertEqual((one, other), ((-3, 4), (5, 6)))
                self.assertEqual(call(one, other), first)

    def test_a_list_in_a_number_s_place_stays(self):
        thing = [1, [2]]
        see_refused(self, "NoNumber", fraction, thing, 2)
        see_refused(self, "NoNumber", fraction, 2, thing)
        self.assertIs(is_fraction(thing), False)
        self.assertIs(is_fraction((thing, 1)), False)
        self.assertEqual(thing, [1, [2]])


if __name__ == "__main__":
    unittest.main()
