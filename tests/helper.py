"""What several tests need: the refusals, numbers and things that are none, and how a refusal is seen."""

import signal
import unittest
from copy import deepcopy
from fractions import Fraction
from itertools import combinations
from math import gcd
from random import Random

from shareparley import errors

REFUSALS = ["NoNumber", "NoGroup", "NoRule", "NoText", "NoTable", "Unlike", "TooMany", "NoOrder",
            "NoRows", "NoShares", "NoVotes"]
SIXTY_NINES = 10 ** 60 - 1


class EndingCase(unittest.TestCase):
    """Tests that fail, and do not run on, where the program goes round and round."""

    SECONDS = 120

    def setUp(self):
        def stop(number, frame):
            raise AssertionError("it does not end")

        self.before = signal.signal(signal.SIGALRM, stop)
        # Stopped once, a test may begin with its next part: this one is stopped sooner.
        signal.setitimer(signal.ITIMER_REAL, self.SECONDS, 1)

    def tearDown(self):
        signal.setitimer(signal.ITIMER_REAL, 0)
        signal.signal(signal.SIGALRM, self.before)


class Stranger:
    """A thing of no sort that the program knows, which may not even be compared or shown."""

    __hash__ = None

    def __eq__(self, other):
        raise RuntimeError("compared")

    def __repr__(self):
        raise RuntimeError("shown")


def no_numbers():
    """Things of many sorts, none of them a whole number."""
    return [True, False, None, "", "1", "x", b"1", 1.0, 0.0, float("nan"), 1j, [], [1], (), (1,), (1, 2),
            {}, {1: 1}, {1}, frozenset(), range(3), int, len, object(), Stranger()]


def see_refused(case, name, call, *handed):
    """The call is refused with just the named error, which is none of the other refusals."""
    try:
        call(*handed)
    except Exception as error:
        case.assertIsInstance(error, errors.ShareError)
        case.assertIsInstance(error, ValueError)
        for refusal in REFUSALS:
            case.assertEqual(isinstance(error, getattr(errors, refusal)), refusal == name, refusal)
    else:
        case.fail(f"not refused with {name}")


def see_groups_refused(case, call, many):
    """The call wants a group of a company of so many hands, and refuses whatever is none."""
    for thing in no_numbers() + [-1, -2, 2 ** many, 2 ** many + 1, 64, 1000, -SIXTY_NINES, SIXTY_NINES]:
        see_refused(case, "NoGroup", call, thing)


def members(group, many):
    """The hands of a group, found by halving it."""
    return [hand for hand in range(many) if group // 2 ** hand % 2 == 1]


def all_pairs(many):
    return list(combinations(range(many), 2))


def some_number(source):
    """A number of each sign, small or great, up to sixty figures."""
    bound = source.choice([1, 9, 1000, 10 ** 30, SIXTY_NINES])
    return source.choice([source.randint(-bound, bound), source.randint(-9, 9), bound, -bound, 0])


def some_cost(source):
    return abs(some_number(source))


def some_numbers(source, long):
    return [some_number(source) for place in range(long)]


def some_pairs(source, many, maker=some_number):
    """Some pairs of hands in any order, each with a number."""
    chosen = all_pairs(many)
    source.shuffle(chosen)
    many_chosen = source.choice([0, len(chosen), source.randint(0, len(chosen))])
    return [(one, other, maker(source)) for one, other in chosen[:many_chosen]]


def some_table(source, many):
    return [0] + some_numbers(source, 2 ** many - 1)


def wrong_pairs(many):
    """Lists of pairs, each with something in it that is not as it should be for so many hands."""
    wrong = [[(-1, 0, 5)], [(-2, -1, 5)], [(-1, 1, 5)], [(0, 0, 5)], [(0, many, 5)], [(0, many + 1, 5)],
             [(many, many + 1, 5)], [(0, SIXTY_NINES, 5)], [(-SIXTY_NINES, 0, 5)],
             [()], [(0,)], [(0, 1)], [(0, 1, 5, 6)], [(0, 1, 5, 0, 1, 5)], [(5,) * 1000]]
    for thing in no_numbers():
        wrong += [[(thing, 1, 5)], [(0, thing, 5)], [(0, 1, thing)], [(thing, thing, thing)], [(0, 1, 5, thing)],
                  [(thing,)], [(thing, thing)]]
    for one, other in all_pairs(many):
        wrong += [[(other, one, 5)], [(one, other, 5), (one, other, 5)], [(one, other, 5), (one, other, 6)]]
    if many > 1:
        wrong += [[(0, 1, 5)] + fault for fault in wrong] + [fault + [(0, 1, 5)] for fault in wrong]
        wrong += [[(one, other, 0) for one, other in all_pairs(many)] + [(0, 1, 9)], [(0, 1, 5)] * 1000]
    if many > 2:
        wrong += [[(0, 1, 5), (0, 2, 5), (0, 1, 6)]]
    return wrong


def no_tables():
    """Lists that are no tables: of another length, with another number first, with a thing that is no number."""
    found = [[0] * long for long in range(130) if long not in (2, 4, 8, 16, 32, 64)] + [[0] * 100000]
    for many in range(1, 7):
        long = 2 ** many
        found += [[first] + [0] * (long - 1) for first in (1, -1, SIXTY_NINES, -SIXTY_NINES)]
        for thing in no_numbers():
            found += [[thing] + [0] * (long - 1), [0] * (long - 1) + [thing], [thing] * long]
        for place in range(long):
            found += [[0] * place + [thing] + [0] * (long - 1 - place) for thing in (True, False, None, Stranger())]
    return found


def see_tables_refused(case, call):
    """The call wants a table, and refuses whatever list is none."""
    for table in no_tables():
        long = len(table)
        see_refused(case, "NoTable", call, table)
        case.assertEqual(len(table), long)


def small_table(source, many, bound):
    """A table of small numbers, in which the same ones come often."""
    return [0] + [source.randint(-bound, bound) for place in range(2 ** many - 1)]


def some_tables(seed, each=6):
    """Tables of one to six hands: noughts, small numbers, great numbers."""
    source = Random(seed)
    found = []
    for many in range(1, 7):
        found += [[0] * 2 ** many, list(range(2 ** many)), [0] + [SIXTY_NINES] * (2 ** many - 1)]
        for turn in range(each):
            found += [some_table(source, many), small_table(source, many, 1), small_table(source, many, 9)]
    return found


def hands_within(table):
    """How many hands a table is of, found by halving its length."""
    return len(bin(len(table))) - 3


def by_hands(table):
    """What each set of hands earns."""
    many = hands_within(table)
    return {frozenset(members(group, many)): table[group] for group in range(2 ** many)}


def table_by(many, earn):
    """The table in which each group earns what earn tells of the set of its hands."""
    return [earn(frozenset(members(group, many))) for group in range(2 ** many)]


def see_numbers(case, told, long):
    """It is a list of so many whole numbers."""
    case.assertIs(type(told), list)
    case.assertEqual([type(number) for number in told], [int] * long)


def see_fraction(case, told):
    """It is a fraction in shortest form; its value as a number to reckon with."""
    case.assertIs(type(told), tuple)
    case.assertEqual([type(number) for number in told], [int, int])
    top, bottom = told
    case.assertGreaterEqual(bottom, 1)
    case.assertEqual(gcd(top, bottom), 1)
    return Fraction(top, bottom)


def see_fractions(case, told, long):
    """It is a list of so many fractions."""
    case.assertIs(type(told), list)
    case.assertEqual(len(told), long)
    return [see_fraction(case, pair) for pair in told]


def see_rising(case, told, first, last):
    """It is a list of tuples of two, the first thing of each a group, the groups rising, each once."""
    case.assertIs(type(told), list)
    for pair in told:
        case.assertIs(type(pair), tuple)
        case.assertEqual(len(pair), 2)
        case.assertIs(type(pair[0]), int)
        case.assertTrue(first <= pair[0] <= last)
    groups = [pair[0] for pair in told]
    case.assertEqual(groups, sorted(set(groups)))


def see_weighing(case, told, many):
    """It is a weighing of groups; for each of them its weight, as a number to reckon with."""
    see_rising(case, told, 1, 2 ** many - 1)
    weights = {group: see_fraction(case, weight) for group, weight in told}
    for weight in weights.values():
        case.assertGreater(weight, 0)
    for hand in range(many):
        case.assertEqual(sum(weight for group, weight in weights.items() if hand in members(group, many)), 1)
    return weights


def shares_by_group(shares):
    """For each group its hands' shares added, the shares being numbers to reckon with."""
    return [sum((shares[hand] for hand in members(group, len(shares))), Fraction(0))
            for group in range(2 ** len(shares))]


def no_fractions():
    """Things of many sorts, none of them a fraction."""
    found = [thing for thing in no_numbers() if not (type(thing) is tuple and len(thing) == 2)]
    found += [0, 1, -1, (2, 4), (0, 2), (-2, 2), (6, 3), (SIXTY_NINES, SIXTY_NINES), (0, 0), (1, 0), (-1, 0)]
    found += [(1, -1), (1, -2), (0, -1), (3, -1), [1, 2], [0, 1], (1, 2, 3), (1, 1, 1), "12"]
    return found + [(thing, 1) for thing in no_numbers()] + [(1, thing) for thing in no_numbers()]


def see_own_lists(case, told):
    """No list within the answer stands in it twice: changing one of them changes none of the others."""
    lists = []
    waiting = [told]
    while waiting:
        thing = waiting.pop()
        if isinstance(thing, (list, tuple)):
            waiting += thing
        if isinstance(thing, list):
            lists.append(thing)
    case.assertEqual(len({id(thing) for thing in lists}), len(lists))


def see_apart(case, call, *handed):
    """What is handed in stays, and no list that was handed in or told and is then changed changes an answer."""
    before = deepcopy(handed)
    first = call(*handed)
    wanted = deepcopy(first)
    see_own_lists(case, first)
    case.assertEqual(frozen(handed), frozen(before))
    second = call(*handed)
    spoil_within(first)
    case.assertEqual(frozen(handed), frozen(before))
    case.assertEqual(frozen(second), frozen(wanted))
    case.assertEqual(frozen(call(*handed)), frozen(wanted))
    spoil_within(handed)
    case.assertEqual(frozen(second), frozen(wanted))
    case.assertEqual(frozen(call(*before)), frozen(wanted))


def frozen(thing):
    """A copy of lists and tuples that can be held against them later."""
    if isinstance(thing, (list, tuple)):
        return (type(thing).__name__, [frozen(within) for within in thing])
    return thing


def spoil_within(thing):
    """All lists within a thing spoiled, itself, too."""
    if isinstance(thing, (list, tuple)):
        for within in thing:
            spoil_within(within)
    if isinstance(thing, list):
        spoil(thing)


def spoil(told):
    """What an asker may do to a list of his own."""
    told.reverse()
    told.append("spoiled")
    if len(told) > 1:
        told[0] = None
