"""Companies: some hands and at most twelve rules for as many, whose earnings are added."""

from shareparley.checks import check_many
from shareparley.errors import NoRule
from shareparley.groups import check_group, whole_company

MOST_RULES = 12


class Company:
    def __init__(self, many, rules):
        check_many(many)
        if len(rules) > MOST_RULES:
            raise NoRule("there must be at most twelve rules")
        if any([rule.hands() != many for rule in rules]):
            raise NoRule("a rule is for another number of hands")
        self.many = many
        self.rules = list(rules)

    def hands(self):
        return self.many

    def earn(self, group):
        check_group(group, self.many)
        return sum([rule.earn(group) for rule in self.rules])

    def table(self):
        return [self.earn(group) for group in range(whole_company(self.many) + 1)]

    def words(self):
        return "; ".join(["hands " + str(self.many)] + [rule.words() for rule in self.rules])
