import unittest
from itertools import combinations, permutations

from helper import no_numbers, see_refused
from shareparley.groups import group_of, hands_of, marks_of, parts_of

BEYOND = [-1, -2, -63, -64, 64, 65, 127, 128, 10 ** 60 - 1, -(10 ** 60 - 1)]
BEYOND_HANDS = [-1, -2, -6, 6, 7, 64, 10 ** 60 - 1, -(10 ** 60 - 1)]


def lists_of_hands():
    """All 64 rising lists of hands, each beside the group that it is."""
    lists = [list(hands) for many in range(7) for hands in combinations(range(6), many)]
    return [(hands, sum(2 ** hand for hand in hands)) for hands in lists]


class GroupCase(unittest.TestCase):
    def see_numbers(self, told, wanted):
        """The told thing is a list of plain ints, in the wanted order."""
        self.assertIs(type(told), list)
        self.assertEqual([type(number) for number in told], [int] * len(wanted))
        self.assertEqual(told, wanted)


class TestHandsOf(GroupCase):
    def test_edges(self):
        self.assertEqual(hands_of(0), [])
        self.assertEqual(hands_of(1), [0])
        self.assertEqual(hands_of(2), [1])
        self.assertEqual(hands_of(4), [2])
        self.assertEqual(hands_of(5), [0, 2])
        self.assertEqual(hands_of(32), [5])
        self.assertEqual(hands_of(63), [0, 1, 2, 3, 4, 5])

    def test_each_group(self):
        for hands, group in lists_of_hands():
            with self.subTest(group=group):
                self.see_numbers(hands_of(group), hands)


class TestPartsOf(GroupCase):
    def test_edges(self):
        self.assertEqual(parts_of(0), [0])
        self.assertEqual(parts_of(1), [0, 1])
        self.assertEqual(parts_of(4), [0, 4])
        self.assertEqual(parts_of(5), [0, 1, 4, 5])
        self.assertEqual(parts_of(63), list(range(64)))

    def test_each_group(self):
        for hands, group in lists_of_hands():
            with self.subTest(group=group):
                wanted = sorted(part for within, part in lists_of_hands() if set(within) <= set(hands))
                self.assertEqual(len(wanted), 2 ** len(hands))
                self.see_numbers(parts_of(group), wanted)


class TestGroupOf(unittest.TestCase):
    def test_edges(self):
        self.assertEqual(group_of([]), 0)
        self.assertEqual(group_of([0]), 1)
        self.assertEqual(group_of([5]), 32)
        self.assertEqual(group_of([0, 2]), 5)
        self.assertEqual(group_of([2, 0]), 5)
        self.assertEqual(group_of([0, 1, 2, 3, 4, 5]), 63)

    def test_each_group_in_any_order(self):
        for hands, group in lists_of_hands():
            for order in permutations(hands):
                with self.subTest(order=order):
                    told = group_of(list(order))
                    self.assertIs(type(told), int)
                    self.assertEqual(told, group)

    def test_hands_and_back(self):
        for group in range(64):
            with self.subTest(group=group):
                self.assertEqual(group_of(hands_of(group)), group)


class TestRefusals(unittest.TestCase):
    def test_no_group(self):
        for place, thing in enumerate(no_numbers() + BEYOND):
            with self.subTest(place=place):
                see_refused(self, "NoGroup", hands_of, thing)
                see_refused(self, "NoGroup", parts_of, thing)

    def test_no_hand(self):
        for place, thing in enumerate(no_numbers() + BEYOND_HANDS):
            with self.subTest(place=place):
                see_refused(self, "NoGroup", group_of, [thing])
                see_refused(self, "NoGroup", group_of, [thing, 3])
                see_refused(self, "NoGroup", group_of, [3, thing])
                see_refused(self, "NoGroup", group_of, [0, 1, 2, 3, 4, 5, thing])
                see_refused(self, "NoGroup", group_of, [thing, thing])

    def test_a_hand_twice(self):
        for hand in range(6):
            other = (hand + 1) % 6
            with self.subTest(hand=hand):
                see_refused(self, "NoGroup", group_of, [hand, hand])
                see_refused(self, "NoGroup", group_of, [hand, other, hand])
                see_refused(self, "NoGroup", group_of, [other, hand, hand])
                see_refused(self, "NoGroup", group_of, [0, 1, 2, 3, 4, 5, hand])
                see_refused(self, "NoGroup", group_of, [hand] * 3)
                see_refused(self, "NoGroup", group_of, [hand] * 65)


class TestLists(unittest.TestCase):
    def test_what_is_handed_in_stays(self):
        for hands in ([], [4, 0, 2], [5, 4, 3, 2, 1, 0]):
            with self.subTest(hands=hands):
                before = list(hands)
                group_of(hands)
                self.assertEqual(hands, before)

    def test_what_is_refused_stays(self):
        for hands in ([3, 1, 3], [2, 9, 0], [1, None], [0, [1, 2]]):
            with self.subTest(hands=hands):
                before = [list(hand) if isinstance(hand, list) else hand for hand in hands]
                see_refused(self, "NoGroup", group_of, hands)
                self.assertEqual(hands, before)

    def test_a_changed_answer_changes_no_later_one(self):
        for call in (hands_of, parts_of):
            for group in range(64):
                with self.subTest(call=call.__name__, group=group):
                    first = call(group)
                    wanted = list(first)
                    second = call(group)
                    first.append(99)
                    first[0] = -1
                    self.assertEqual(second, wanted)
                    self.assertEqual(call(group), wanted)
                    second.clear()
                    self.assertEqual(call(group), wanted)

    def test_a_list_changed_after_changes_no_answer(self):
        hands = [2, 0]
        self.assertEqual(group_of(hands), 5)
        hands.append(1)
        self.assertEqual(group_of(hands), 7)
        hands.clear()
        self.assertEqual(group_of(hands), 0)
        self.assertEqual(group_of([2, 0]), 5)

    def test_marks(self):
        for hands, group in lists_of_hands():
            for many in range(max(hands, default=0) + 1, 7):
                with self.subTest(group=group, many=many):
                    told = marks_of(group, many)
                    self.assertEqual([type(mark) for mark in told], [int] * many)
                    self.assertEqual(told, [int(hand in hands) for hand in range(many)])


if __name__ == "__main__":
    unittest.main()
