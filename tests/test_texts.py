import re
import unittest
from random import Random

from helper import (SIXTY_NINES, all_pairs, members, see_apart, see_numbers, see_refused, see_tables_refused,
                    some_pairs, some_tables, spoil)
from shareparley.companies import Company
from shareparley.errors import NoText
from shareparley.texts import read, shown

KINDS = ["none", "own", "pairs", "votes", "match", "net", "table"]
THIRTY_NINES = 10 ** 30 - 1


def written_number(source):
    """A number of one to thirty figures and of each sign."""
    bound = 10 ** source.randint(1, 30)
    return source.choice([0, 1, -1, bound - 1, 1 - bound, bound // 10, -bound // 10,
                          source.randint(bound // 10, bound - 1), -source.randint(bound // 10, bound - 1)])


def written_cost(source):
    return abs(written_number(source))


def greatest_sum(numbers, within):
    """The greatest sum of a pairing, numbers being a dict of pairs."""
    if not within:
        return 0
    found = greatest_sum(numbers, within[1:])
    for other in within[1:]:
        if (within[0], other) in numbers:
            rest = [hand for hand in within[1:] if hand != other]
            found = max(found, numbers[within[0], other] + greatest_sum(numbers, rest))
    return found


def least_cost(costs, ropes, within):
    """The least cost of a net: the cheapest ropes in turn, each that joins what was not joined yet."""
    ends = [(costs[hand], hand, "well") for hand in within]
    ends += [(cost, one, other) for one, other, cost in ropes if one in within and other in within]
    heap = {hand: hand for hand in within}
    heap["well"] = "well"
    total = 0
    for cost, one, other in sorted(ends, key=lambda rope: rope[0]):
        if heap[one] != heap[other]:
            total += cost
            left = heap[one]
            heap = {end: heap[other] if heap[end] == left else heap[end] for end in heap}
    return total


def pairs_text(pairs):
    return "".join(f" {one}-{other}:{number}" for one, other, number in pairs)


def numbers_text(numbers):
    return "".join(" " + str(number) for number in numbers)


def draw_paired(source, many, kind):
    pairs = some_pairs(source, many, written_number)
    numbers = {(one, other): number for one, other, number in pairs}
    texts = (kind + pairs_text(pairs), kind + pairs_text(sorted(pairs)))
    if kind == "match":
        return texts + (lambda within: greatest_sum(numbers, within),)
    return texts + (lambda within: sum(numbers[pair] for pair in numbers if set(pair) <= set(within)),)


def draw_rule(source, many, kind):
    """A part as it is written, the same with its pairs sorted, and what a list of hands earns by it."""
    numbers = [written_number(source) for hand in range(many)]
    if kind == "none":
        return ("none", "none", lambda within: 0)
    if kind in ("pairs", "match"):
        return draw_paired(source, many, kind)
    if kind == "own":
        text = "own" + numbers_text(numbers)
        return (text, text, lambda within: sum(numbers[hand] for hand in within))
    if kind == "votes":
        prize = written_number(source)
        quota = source.choice([1, max(1, sum(numbers)), max(1, abs(written_number(source)))])
        quota = min(quota, THIRTY_NINES)
        text = "votes" + numbers_text([quota, prize] + numbers)
        return (text, text, lambda within: prize if sum(numbers[hand] for hand in within) >= quota else 0)
    if kind == "net":
        costs = [abs(number) for number in numbers]
        ropes = some_pairs(source, many, written_cost)
        head = "net" + numbers_text(costs)
        return (head + pairs_text(ropes), head + pairs_text(sorted(ropes)),
                lambda within: -least_cost(costs, ropes, within))
    table = [0] + [written_number(source) for group in range(2 ** many - 1)]
    text = "table" + numbers_text(table[1:])
    return (text, text, lambda within: table[sum(2 ** hand for hand in within)])


def draw_text(source, many, kinds):
    """A text, the same with sorted pairs, and the table of its company."""
    rules = [draw_rule(source, many, kind) for kind in kinds]
    table = [sum(rule[2](members(group, many)) for rule in rules) for group in range(2 ** many)]
    return ("; ".join([f"hands {many}"] + [rule[0] for rule in rules]),
            "; ".join([f"hands {many}"] + [rule[1] for rule in rules]), table)


class TestRead(unittest.TestCase):
    def see_read(self, text, words, table):
        company = read(text)
        self.assertIs(type(company), Company)
        self.assertIs(type(company.hands()), int)
        self.assertEqual(company.hands(), int(text[6]))
        self.assertEqual(company.words(), words)
        see_numbers(self, company.table(), len(table))
        self.assertEqual(company.table(), table)
        self.assertEqual([company.earn(group) for group in range(len(table))], table)
        again = read(words)
        self.assertEqual(again.words(), words)
        self.assertEqual(again.table(), table)

    def test_no_rules(self):
        for many in range(1, 7):
            with self.subTest(many=many):
                self.see_read(f"hands {many}", f"hands {many}", [0] * 2 ** many)

    def test_by_hand(self):
        self.see_read("hands 1; own -7", "hands 1; own -7", [0, -7])
        self.see_read("hands 1; pairs; match; net 4; votes 1 5 1; table 0; none", "hands 1; pairs; match; net 4; "
                      "votes 1 5 1; table 0; none", [0, 1])
        self.see_read("hands 2; pairs 0-1:5; own 1 2", "hands 2; pairs 0-1:5; own 1 2", [0, 1, 2, 8])
        self.see_read("hands 2; votes 3 -10 1 2", "hands 2; votes 3 -10 1 2", [0, 0, 0, -10])
        self.see_read("hands 2; net 3 9 0-1:4", "hands 2; net 3 9 0-1:4", [0, -3, -9, -7])
        self.see_read("hands 3; match 1-2:9 0-2:3 0-1:2", "hands 3; match 0-1:2 0-2:3 1-2:9",
                      [0, 0, 0, 2, 0, 3, 9, 9])
        self.see_read("hands 3; table 1 2 3 4 5 6 7", "hands 3; table 1 2 3 4 5 6 7", [0, 1, 2, 3, 4, 5, 6, 7])
        self.see_read("hands 3; net 0 0 0 1-2:0 0-1:0", "hands 3; net 0 0 0 0-1:0 1-2:0", [0] * 8)

    def test_each_kind(self):
        for seed in range(12):
            source = Random(seed)
            for many in range(1, 7):
                for kind in KINDS:
                    with self.subTest(seed=seed, many=many, kind=kind):
                        self.see_read(*draw_text(source, many, [kind]))

    def test_none_to_twelve_rules(self):
        for seed in range(3):
            source = Random(seed)
            for many in range(1, 7):
                for many_rules in range(13):
                    kinds = [source.choice(KINDS) for place in range(many_rules)]
                    with self.subTest(seed=seed, many=many, many_rules=many_rules):
                        text, words, table = draw_text(source, many, kinds)
                        self.see_read(text, words, table)
                        self.see_read(words, words, table)

    def test_each_number_of_figures(self):
        for figures in range(1, 31):
            for number in (10 ** figures - 1, 1 - 10 ** figures, 10 ** (figures - 1), -10 ** (figures - 1)):
                cost = abs(number)
                with self.subTest(number=number):
                    for text, table in ((f"hands 1; own {number}", [0, number]),
                                        (f"hands 1; table {number}", [0, number]),
                                        (f"hands 1; net {cost}", [0, -cost]),
                                        (f"hands 1; votes {cost} {number} {cost}", [0, number]),
                                        (f"hands 1; votes {cost} {number} {number}", [0, max(0, number)]),
                                        (f"hands 2; pairs 0-1:{number}", [0, 0, 0, number]),
                                        (f"hands 2; match 0-1:{number}", [0, 0, 0, max(0, number)]),
                                        (f"hands 2; net 0 {cost} 0-1:{cost}", [0, 0, -cost, -cost])):
                        self.see_read(text, text, table)

    def test_all_pairs_in_any_order(self):
        source = Random(5)
        for many in range(2, 7):
            pairs = [(one, other, one * 10 + other) for one, other in all_pairs(many)]
            for kind, head in (("pairs", "pairs"), ("match", "match"), ("net", "net" + " 5" * many)):
                words = f"hands {many}; {head}" + pairs_text(pairs)
                for turn in range(8):
                    mixed = list(pairs) if turn == 0 else pairs[::-1] if turn == 1 else source.sample(pairs, len(pairs))
                    with self.subTest(many=many, kind=kind, turn=turn):
                        self.assertEqual(read(f"hands {many}; {head}" + pairs_text(mixed)).words(), words)

    def test_a_long_text(self):
        text = "hands 6; table" + f" {THIRTY_NINES}" * 63 + "; own" + f" -{THIRTY_NINES}" * 6
        text += "; pairs" + pairs_text([(one, other, THIRTY_NINES) for one, other in all_pairs(6)])
        self.assertLess(len(text), 4000)
        company = read(text)
        self.assertEqual(company.words(), text)
        self.assertEqual(company.table()[63], (1 - 6 + 15) * THIRTY_NINES)

    def test_companies_read_are_apart(self):
        text = "hands 2; own 1 2; pairs 0-1:3"
        first = read(text=text)
        second = read(text)
        table = first.table()
        spoil(table)
        self.assertEqual(first.table(), [0, 1, 2, 6])
        self.assertEqual(second.table(), [0, 1, 2, 6])
        self.assertEqual(read(text).words(), text)


WRONG_NUMBERS = ["", "-", "--1", "1-", "+1", "+0", "-0", "00", "01", "-01", "000", "-00", "007", "1.0", "1e3",
                 "0x1", "1_0", "x", "1x", "x1", "1,", "1;", ";1", "1;2", "1:2", "0-1", "0-1:1", "1\n", "\n1",
                 "\t1", "1\t", "\u00a01", "1\u2003", "1" * 31, "9" * 31, "-" + "9" * 31, "1" + "0" * 30,
                 "0" * 31, "0" * 30 + "1", "9" * 60, "9" * 3900, "\u0663", "1\u0663", "\u00b2", "1\u00b2",
                 "\uff11", "\u2460", "\u2167", "\u0be7", "\u22121", "\U0001d7d9", "None", "True", "none",
                 "1/2", "(1)", "'1'", "inf"]


def wrong_pair_words(many):
    """Words that tell no pair of so many hands."""
    words = ["0-0:1", f"0-{many}:1", f"{many}-{many + 1}:1", f"{many - 1}-{many - 1}:1",
             f"{many - 1}-{many}:1", "0-9:1", "8-9:1", "-1-0:1", "0-01:1", "00-1:1", "+0-1:1", "0-+1:1",
             "0--1:1", "0_1:1", "01:1", "0-1", "0-1:", "0-1:1:1", "0-1;1", "0-1:1;", "0:1-1", "0-1-1",
             "0=1:1", ":1", "-:1", "0-:1", "-1:1", "0", "1", "", "-", "0-", "0-1:1-", "0-1 :1", "0 -1:1",
             "0-\u0661:1", "\u0660-1:1", "0-\u00b9:1", "a-b:1", "0-1\uff1a1", "0\u22121:1", "0-10:1",
             "0-1:1,0-2:1", "(0-1:1)", "x0-1:1", "\t0-1:1", "0-1:1\n", "0-12:1", "10-1:1", "0 1:1", "0-1 1"]
    for one, other in all_pairs(many):
        words.append(f"{other}-{one}:1")
    if many > 1:
        words += ["0-1:" + number for number in WRONG_NUMBERS]
    return words


def wrong_pair_tails(many):
    """What stands behind the word pairs or match, or behind the costs of a net, and is not as told."""
    tails = [" " + word for word in wrong_pair_words(many)]
    if many > 1:
        tails += [" 0-1:1 0-1:1", " 0-1:1 0-1:2", " 0-1:1  ", " 0-1:1 ", "  0-1:1", " 0-1:1;", ";0-1:1"]
        tails += [" 0-1:1 " + word for word in wrong_pair_words(many)[:20]]
        tails += [" " + word + " 0-1:1" for word in wrong_pair_words(many)[:20]]
    if many > 2:
        tails += [" 0-1:1 0-2:1 0-1:1", " 0-1:1  0-2:1", " 0-1:1;0-2:1", " 0-1:1 1-0:1", " 1-2:4 0-2:1 1-2:4"]
    return tails


def wrong_lists(head, words):
    """A number too few, a number too many, and in each place something that is no number."""
    found = [" ".join([head] + words[:-1]), " ".join([head] + words + ["1"]), " ".join([head] + words * 2),
             head, head + " ", head + "  " + " ".join(words), " " + " ".join([head] + words),
             " ".join([head] + words) + " ", head + ";" + " ".join(words), " ".join([head] + words) + ";",
             head + "".join(words), head + "\t" + "\t".join(words)]
    for number in WRONG_NUMBERS:
        found += [" ".join([head] + words[:-1] + [number]), " ".join([head, number] + words[1:])]
    if len(words) > 1:
        found += [head + " " + "  ".join(words), head + " " + ";".join(words), head + " " + ", ".join(words)]
    return found


def wrong_parts(many):
    """Parts that tell no rule for so many hands; none of them holds a ; with a blank behind it."""
    parts = ["", " ", "  ", ";", "x", "None", "NONE", "none ", " none", "none none", "none 1", "none;",
             "none;none", "non", "nones", "hands", f"hands {many}", "hand 1", "rule", "empty", "Own 1", "OWN",
             "owns 1", "pair", "Pairs", "vote", "matches", "Match", "nets", "Net", "tables", "plain 1", "0",
             "1", "-1", "none\n", "\nnone", "none\t", "\u00a0none", "pairs ", " pairs", "pairs  ", "pairs;",
             "match ", " match", "match;"]
    parts += wrong_lists("own", ["1"] * many)
    parts += wrong_lists("votes", ["1"] * (many + 2))
    parts += wrong_lists("net", ["1"] * many)
    parts += wrong_lists("table", ["1"] * (2 ** many - 1))
    ones = " 1" * many
    parts += [f"votes {quota} 1" + ones for quota in ["0", "-1", "-5", str(-THIRTY_NINES)] + WRONG_NUMBERS]
    parts += [f"votes 1 {prize}" + ones for prize in WRONG_NUMBERS]
    parts += ["votes 1", "votes 1 1", "votes", "votes 0 0" + ones]
    for place in range(many):
        for cost in ["-1", str(-THIRTY_NINES), "-0"]:
            parts.append("net" + " 1" * place + " " + cost + " 1" * (many - 1 - place))
    for tail in wrong_pair_tails(many):
        parts += ["pairs" + tail, "match" + tail, "net" + ones + tail]
    if many > 1:
        parts += ["net" + ones + " 0-1:-1", "net" + ones + f" 0-1:-{THIRTY_NINES}",
                  "net" + " 1" * (many - 1) + " 0-1:1", "net" + " 1" * (many - 1), "net 0-1:1" + ones,
                  "table" + " 1" * (2 ** (many - 1) - 1)]
    parts += ["table" + " 1" * 2 ** many, "table" + " 1" * (2 ** (many + 1) - 1), "table" + " 1" * 127]
    return [part for part in parts if "; " not in part]


NO_HANDS = ["", " ", ";", ";;", "x", "hands", "hands ", "hands 0", "hands 7", "hands 8", "hands 9",
            "hands 10", "hands 12", "hands 123456", "hands 01", "hands +1", "hands -1", "hands 1.0",
            "hands one", "hands  1", " hands 1", "hands 1 ", "hands 1 1", "hands 1 2", "Hands 1", "HANDS 1",
            "hand 1", "hands1", "hands\t1", "hands 1\n", "\nhands 1", "hands \uff11", "hands \u00b2",
            "hands \u0661", "hands\u00a01", "hands 1;", "hands 1;own 1", "hands 1;none", "hands 2;;", "1",
            "none", "own 1", "table 1", "1 hands", "hands N", "hands: 1", "hands 1,", "hands 1;\nnone",
            "\ufeffhands 1", "hands None", "hands 1" * 2, "hands 1:own 1"]


class TestWrongTexts(unittest.TestCase):
    def see_no_text(self, text, part):
        see_refused(self, "NoText", read, text)
        try:
            read(text)
        except NoText as error:
            self.assertIs(type(error.part), int)
            self.assertEqual(error.part, part, text)

    def test_wrong_first_parts(self):
        for text in NO_HANDS:
            with self.subTest(text=text):
                self.see_no_text(text, 0)
                self.see_no_text(text + "; none", 0)
                self.see_no_text(text + "; own 1", 0)
                self.see_no_text(text + "; x; y", 0)
                self.see_no_text(text + "; none" * 13, 0)
                self.see_no_text("; " + text, 0)

    def test_first_parts_left_out(self):
        self.see_no_text("none; none", 0)
        self.see_no_text("; hands 1", 0)
        self.see_no_text("; ", 0)
        self.see_no_text("; ; ", 0)

    def test_each_wrong_part(self):
        for many in range(1, 7):
            for part in wrong_parts(many):
                with self.subTest(many=many, part=part):
                    self.see_no_text(f"hands {many}; {part}", 1)
                    self.see_no_text(f"hands {many}; none; {part}", 2)
                    self.see_no_text(f"hands {many}; none; {part}; none", 2)
                    self.see_no_text(f"hands {many}" + "; pairs" * 11 + f"; {part}", 12)

    def test_of_two_the_first(self):
        source = Random(8)
        for many in range(1, 7):
            parts = wrong_parts(many)
            for turn in range(300):
                first = source.randint(1, 12)
                told = ["none"] * (first - 1) + [source.choice(parts)]
                for place in range(source.randint(0, 6)):
                    told.append(source.choice(["none", "match", source.choice(parts)]))
                with self.subTest(many=many, turn=turn):
                    self.see_no_text("; ".join([f"hands {many}"] + told), first)

    def test_a_part_for_another_number_of_hands(self):
        for many in range(1, 7):
            for other in range(1, 7):
                if many == other:
                    continue
                ones = " 1" * other
                with self.subTest(many=many, other=other):
                    self.see_no_text(f"hands {many}; own" + ones, 1)
                    self.see_no_text(f"hands {many}; none; votes 1 1" + ones, 2)
                    self.see_no_text(f"hands {many}; net" + ones, 1)
                    self.see_no_text(f"hands {many}; table" + " 1" * (2 ** other - 1), 1)
                    self.see_no_text(f"hands {many}; hands {other}", 1)
                    if other > many:
                        self.see_no_text(f"hands {many}; pairs 0-{other - 1}:1", 1)
                        self.see_no_text(f"hands {many}; match 0-{other - 1}:1", 1)

    def test_parts_without_words(self):
        self.see_no_text("hands 2; ", 1)
        self.see_no_text("hands 2; ; none", 1)
        self.see_no_text("hands 2; none; ", 2)
        self.see_no_text("hands 2; none; ; ", 2)
        self.see_no_text("hands 2;  ", 1)
        self.see_no_text("hands 2;  none", 1)
        self.see_no_text("hands 2 ; none", 0)
        self.see_no_text("hands 2; none ; none", 1)

    def test_a_parting_without_a_blank(self):
        self.see_no_text("hands 2;none", 0)
        self.see_no_text("hands 2;none; none", 0)
        self.see_no_text("hands 2; none;none", 1)
        self.see_no_text("hands 2; none;", 1)
        self.see_no_text("hands 2; own 1 2;none; x", 1)
        self.see_no_text("hands 2;; none", 0)
        self.see_no_text("hands 2; none;; none", 1)
        self.see_no_text("hands 2; none;\tnone", 1)
        self.see_no_text("hands 2; none;\u00a0none", 1)

    def test_a_fourteenth_part(self):
        for many in range(1, 7):
            for rule in ("none", "pairs", "own" + " 1" * many):
                full = f"hands {many}" + f"; {rule}" * 12
                with self.subTest(many=many, rule=rule):
                    self.assertEqual(read(full).words(), full)
                    for more in ("none", rule, "", "x", "none; none", "; x", "none; none; x", "none;none"):
                        self.see_no_text(full + "; " + more, 13)
                    self.see_no_text(full + "; none" * 100, 13)
                    self.see_no_text(full + ";none", 12)
                    self.see_no_text(f"hands {many}" + f"; {rule}" * 11 + "; x" * 5, 12)
                    self.see_no_text(f"hands {many}; x" + f"; {rule}" * 20, 1)


NUMBER = "(?:0|-?[1-9][0-9]{0,29})"
COST = "(?:0|[1-9][0-9]{0,29})"
QUOTA = "[1-9][0-9]{0,29}"


def is_part(many, part):
    """Whether a part tells a rule, read by patterns."""
    hand = f"[0-{many - 1}]"
    long = 2 ** many - 1
    patterns = ["none", f"own(?: {NUMBER}){{{many}}}", f"(?:pairs|match)(?: {hand}-{hand}:{NUMBER})*",
                f"votes {QUOTA} {NUMBER}(?: {NUMBER}){{{many}}}",
                f"net(?: {COST}){{{many}}}(?: {hand}-{hand}:{COST})*", f"table(?: {NUMBER}){{{long}}}"]
    if not any(re.fullmatch(pattern, part) for pattern in patterns):
        return False
    pairs = re.findall("([0-9])-([0-9]):", part)
    return all(one < other for one, other in pairs) and len(set(pairs)) == len(pairs)


def first_fault(text):
    """The number of the first part that is not as told, or None."""
    parts = re.split("; ", text)
    if not re.fullmatch("hands [1-6]", parts[0]):
        return 0
    for place, part in enumerate(parts):
        if place > 12 or place > 0 and not is_part(int(parts[0][6]), part):
            return place
    return None


def marred(source, text):
    """The text with something in it changed a little."""
    place = source.randrange(len(text) + 1)
    sign = source.choice(" ;-:+0123456789123456hownpairsvtemchbl\t\n\u0663\u00b2")
    choice = source.randrange(7)
    if choice == 0:
        return text[:place] + text[place + 1:]
    if choice == 1:
        return text[:place] + sign + text[place:]
    if choice == 2:
        return text[:place] + sign + text[place + 1:]
    parting = source.choice([" ", "; "])
    words = text.split(parting)
    first = source.randrange(len(words))
    second = source.randrange(len(words))
    if choice == 3:
        words[first], words[second] = words[second], words[first]
    elif choice == 4:
        words.insert(first, words[second])
    elif choice == 5:
        words.pop(first)
    else:
        words[first] = source.choice(["none", "0", "-1", "0-1:5", "1-2:0", "7", "pairs", "", "9" * 30, "9" * 31])
    return parting.join(words)


def tidied(text):
    """The text with the pairs of each part sorted."""
    parts = []
    for part in text.split("; "):
        words = part.split(" ")
        pairs = sorted(word for word in words if ":" in word)
        parts.append(" ".join([word for word in words if ":" not in word] + pairs))
    return "; ".join(parts)


class TestMarredTexts(unittest.TestCase):
    def test_they_are_taken_and_refused_as_the_patterns_say(self):
        source = Random(21)
        seen = {}
        for turn in range(6000):
            many = source.randint(1, 4)
            kinds = [source.choice(KINDS) for place in range(source.choice([0, 1, 2, 3, 12]))]
            text = draw_text(source, many, kinds)[0] if turn % 2 else self.short_text(source, many, len(kinds))
            self.assertIsNone(first_fault(text), text)
            for change in range(source.randint(1, 2)):
                text = marred(source, text)
            wanted = first_fault(text)
            seen[wanted] = seen.get(wanted, 0) + 1
            with self.subTest(text=text):
                try:
                    words = read(text).words()
                except NoText as error:
                    self.assertEqual(error.part, wanted)
                else:
                    self.assertIsNone(wanted)
                    self.assertEqual(words, tidied(text))
        self.assertGreater(seen[None], 300)
        for place in (0, 1, 2, 3, 12, 13):
            self.assertGreater(seen[place], 10, place)

    def short_text(self, source, many, many_rules):
        parts = [f"hands {many}"]
        for place in range(many_rules):
            parts.append(source.choice(["none", "pairs", "match", "own" + " 1" * many, "votes 2 3" + " 4" * many,
                                        "net" + " 5" * many, "table" + " 6" * (2 ** many - 1)]))
            if many > 1 and parts[-1].split(" ")[0] in ("pairs", "match", "net"):
                parts[-1] += " 0-1:7"
        return "; ".join(parts)


class TestShown(unittest.TestCase):
    def test_by_hand(self):
        self.assertEqual(shown([0, 5]), "hands 1; table 5")
        self.assertEqual(shown([0, -1, 0, 7]), "hands 2; table -1 0 7")
        self.assertEqual(shown(table=[0] * 8), "hands 3; table 0 0 0 0 0 0 0")

    def test_each_table(self):
        for table in some_tables(31):
            with self.subTest(table=table):
                words = ["hands", str([2, 4, 8, 16, 32, 64].index(len(table)) + 1) + ";", "table"]
                told = shown(table)
                self.assertIs(type(told), str)
                self.assertEqual(told, " ".join(words + [str(number) for number in table[1:]]))

    def test_what_is_shown_can_be_read(self):
        source = Random(32)
        for many in range(1, 7):
            for turn in range(10):
                table = [0] + [written_number(source) for place in range(2 ** many - 1)]
                with self.subTest(many=many, turn=turn):
                    self.assertEqual(read(shown(table)).table(), table)
                    self.assertEqual(read(shown(table)).words(), shown(table))

    def test_numbers_that_are_too_long_to_be_read(self):
        for number in (10 ** 30, -10 ** 30, SIXTY_NINES):
            with self.subTest(number=number):
                text = shown([0, 1, 2, number])
                self.assertEqual(text, f"hands 2; table 1 2 {number}")
                with self.assertRaises(NoText) as seen:
                    read(text)
                self.assertEqual(seen.exception.part, 1)

    def test_the_words_of_any_company(self):
        source = Random(33)
        for many in range(1, 7):
            text, words, table = draw_text(source, many, KINDS)
            with self.subTest(many=many):
                self.assertEqual(shown(read(text).table()), f"hands {many}; table" + numbers_text(table[1:]))

    def test_no_tables(self):
        see_tables_refused(self, shown)

    def test_what_is_handed_in(self):
        for table in some_tables(34, each=1):
            see_apart(self, shown, table)


if __name__ == "__main__":
    unittest.main()
