"""Texts: a company read from its text, and a table shown as one."""

from shareparley.best import Match, Net
from shareparley.companies import MOST_RULES, Company
from shareparley.errors import NoRule, NoText
from shareparley.rules import Own, Pairs, Plain, Rule, Votes
from shareparley.tables import LENGTHS, hands_in

FIGURES = "0123456789"
MOST_FIGURES = 30


# Each sign is held against the ten by itself: Python's int would take other figures, blanks and a + as well.
def number_of(word):
    figures = word[1:] if word.startswith("-") else word
    if not 1 <= len(figures) <= MOST_FIGURES or not all([sign in FIGURES for sign in figures]):
        raise NoRule("a number must be written with one to thirty figures")
    if figures.startswith("0") and word != "0":
        raise NoRule("a number must not begin with a 0, nor be -0")
    return int(word)


def numbers_of(words):
    return [number_of(word) for word in words]


def pair_of(word):
    if len(word) < 4 or word[1] != "-" or word[3] != ":":
        raise NoRule("a pair must be written as two hands and a number")
    return (number_of(word[0]), number_of(word[2]), number_of(word[4:]))


def pairs_of(words):
    return [pair_of(word) for word in words]


# How many words there are is asked here, the rest of what a rule wants by the rule itself.
def rule_of(many, words):
    kind = words[0]
    told = words[1:]
    if kind == "none" and len(told) == 0:
        return Rule(many)
    if kind == "own" and len(told) == many:
        return Own(numbers_of(told))
    if kind == "pairs":
        return Pairs(many, pairs_of(told))
    if kind == "votes" and len(told) == many + 2:
        numbers = numbers_of(told)
        return Votes(numbers[0], numbers[1], numbers[2:])
    if kind == "match":
        return Match(many, pairs_of(told))
    if kind == "net" and len(told) >= many:
        return Net(numbers_of(told[:many]), pairs_of(told[many:]))
    if kind == "table" and len(told) == LENGTHS[many] - 1:
        return Plain([0] + numbers_of(told))
    raise NoRule("the words tell no rule for so many hands")


def many_of(part):
    for many in range(1, len(LENGTHS)):
        if part == f"hands {many}":
            return many
    raise NoText(0)


def read(text):
    parts = text.split("; ")
    many = many_of(parts[0])
    rules = []
    for place, part in enumerate(parts[1:], start=1):
        if place > MOST_RULES:
            raise NoText(place)
        try:
            rules.append(rule_of(many, part.split(" ")))
        except NoRule:
            raise NoText(place) from None
    return Company(many, rules)


def shown(table):
    return Company(hands_in(table), [Plain(table)]).words()
