"""Weighing: weights by which columns meet due and gain the most, or what shows that there are none or no end."""

from shareparley.checks import is_number
from shareparley.errors import NoRows
from shareparley.fractions import fraction

MOST_PLACES = 8
MOST_COLUMNS = 70


def are_numbers(thing, least, most):
    if not isinstance(thing, list) or not least <= len(thing) <= most:
        return False
    return all([is_number(number) for number in thing])


def check_rows(columns, due, gains):
    if not are_numbers(due, 1, MOST_PLACES):
        raise NoRows("due must be a list of one to eight whole numbers")
    if not isinstance(columns, list) or len(columns) > MOST_COLUMNS:
        raise NoRows("columns must be a list of at most seventy lists")
    if not all([are_numbers(column, len(due), len(due)) for column in columns]):
        raise NoRows("each column must be a list of as many whole numbers as due")
    if not are_numbers(gains, len(columns), len(columns)):
        raise NoRows("gains must be a list of whole numbers, one for each column")


def sign_of(number):
    return -1 if number < 0 else 1


def first_row(columns, due, place):
    # With the sign of what is due no spare column begins with a weight below 0.
    sign = sign_of(due[place])
    spares = [1 if other == place else 0 for other in range(len(due))]
    return [sign * column[place] for column in columns] + spares + [sign * due[place]]


def cleared(row, lead, column, bottom):
    # The numbers are minors of the first rows throughout, so the bottom goes into them evenly.
    return [(number * lead[column] - row[column] * other) // bottom for number, other in zip(row, lead)]


# For each place there is a row of whole numbers, all over one bottom, and each row is solved for a chosen column.
# Behind the columns stand spare ones, one for each place, so that there is something to begin with; they have no part
# in the weights. Last in each row stands what is due.
class Frame:
    def __init__(self, columns, due):
        self.many = len(columns)
        self.bottom = 1
        self.rows = [first_row(columns, due, place) for place in range(len(due))]
        self.chosen = [self.many + place for place in range(len(due))]

    def choose(self, place, column):
        sign = sign_of(self.rows[place][column])
        lead = [sign * number for number in self.rows[place]]
        rows = [cleared(row, lead, column, self.bottom) for row in self.rows]
        rows[place] = lead
        self.rows = rows
        self.bottom = lead[column]
        self.chosen[place] = column

    def gains_more(self, column, gains):
        given_up = sum([gains[chosen] * row[column] for chosen, row in zip(self.chosen, self.rows)])
        return given_up < gains[column] * self.bottom

    # Here the least column that will do is taken, and in comes_ahead again: so the choices never go round and round.
    def column_to_choose(self, gains):
        for column in range(self.many):
            if self.gains_more(column, gains):
                return column
        return None

    def comes_ahead(self, one, other, column):
        first = self.rows[one][-1] * self.rows[other][column]
        second = self.rows[other][-1] * self.rows[one][column]
        return first < second or first == second and self.chosen[one] < self.chosen[other]

    def place_to_leave(self, column):
        """The place whose chosen column is the first to come down to 0 as the new column's weight grows, or None."""
        found = None
        for place, row in enumerate(self.rows):
            if row[column] > 0 and (found is None or self.comes_ahead(place, found, column)):
                found = place
        return found


def climb(frame, gains):
    """Choose columns until none gains more. Told is None, or a column whose weight can grow without end."""
    column = frame.column_to_choose(gains)
    while column is not None:
        place = frame.place_to_leave(column)
        if place is None:
            return column
        frame.choose(place, column)
        column = frame.column_to_choose(gains)
    return None


def spare_places(frame):
    return [place for place, column in enumerate(frame.chosen) if column >= frame.many]


def leave_spares(frame):
    """Choose columns in the stead of the spare ones, whose weights are 0 by now.

    A spare one stays only where no column has a number but 0 in the row: so it stays at 0 for good.
    """
    for place in spare_places(frame):
        others = [column for column in range(frame.many) if frame.rows[place][column] != 0]
        if len(others) > 0:
            frame.choose(place, others[0])


def weights_of(frame):
    weights = [(0, 1)] * frame.many
    for column, row in zip(frame.chosen, frame.rows):
        if column < frame.many:
            weights[column] = fraction(row[-1], frame.bottom)
    return weights


def prices_of(frame, gains, due):
    # The spare columns tell how the rows were added up, and so the price of each place.
    prices = []
    for place, number in enumerate(due):
        column = frame.many + place
        price = sum([gains[chosen] * row[column] for chosen, row in zip(frame.chosen, frame.rows)])
        prices.append(fraction(sign_of(number) * price, frame.bottom))
    return prices


def way_of(frame, growing):
    way = [(0, 1)] * frame.many
    for column, row in zip(frame.chosen, frame.rows):
        if column < frame.many:
            way[column] = fraction(-row[growing], frame.bottom)
    way[growing] = (1, 1)
    return way


def weigh(columns, due, gains):
    check_rows(columns, due, gains)
    frame = Frame(columns, due)
    # At first only leaving the spare columns counts as a gain.
    leaving = [0] * len(columns) + [-1] * len(due)
    climb(frame, leaving)
    if any([frame.rows[place][-1] != 0 for place in spare_places(frame)]):
        return ("none", prices_of(frame, leaving, due))
    leave_spares(frame)
    all_gains = gains + [0] * len(due)
    growing = climb(frame, all_gains)
    if growing is None:
        return ("best", weights_of(frame), prices_of(frame, all_gains, due))
    return ("endless", weights_of(frame), way_of(frame, growing))
