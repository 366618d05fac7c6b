import unittest

from helper import SIXTY_NINES, no_numbers, no_tables, see_refused
from shareparley.tables import hands_in, is_table


def tables():
    """For each number of hands some tables."""
    found = []
    for many in range(1, 7):
        long = 2 ** many
        found += [(many, [0] * long), (many, list(range(long))), (many, [0] + [-SIXTY_NINES] * (long - 1)),
                  (many, [0] + [SIXTY_NINES] * (long - 1)), (many, [-place for place in range(long)])]
    return found


class TestTables(unittest.TestCase):
    def test_tables_are(self):
        for many, table in tables():
            with self.subTest(many=many):
                before = list(table)
                self.assertIs(is_table(table), True)
                told = hands_in(table)
                self.assertIs(type(told), int)
                self.assertEqual(told, many)
                self.assertEqual(table, before)

    def test_other_lists_are_not(self):
        for place, thing in enumerate(no_tables()):
            with self.subTest(place=place):
                long = len(thing)
                self.assertIs(is_table(thing), False)
                see_refused(self, "NoTable", hands_in, thing)
                self.assertEqual(len(thing), long)

    def test_other_things_are_not(self):
        for place, thing in enumerate(no_numbers() + [(0, 1), "01", {0: 0, 1: 1}, range(2), 0, 2]):
            with self.subTest(place=place):
                self.assertIs(is_table(thing), False)


if __name__ == "__main__":
    unittest.main()
