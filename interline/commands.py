"""The lines of a session: their forms, and what the words in them stand for."""

from interline.courses import MAX_LATE, is_course
from interline.errors import CommandError
from interline.kinds import is_known
from interline.limits import MAX_COIN, MAX_EVENTS, MAX_STOPS, MAX_TIME, MAX_WAIT
from interline.tokens import is_name, is_numeral

# What follows the first word of a line, or the first two of them where the second one tells the form.
FORMS = {
    "text": (),
    "sell": ("name", "class", "flights"),
    "refund": ("name",),
    "ledger": (),
    "sold": (),
    "threat cancel": ("flight",),
    "threat late": ("flight", "minutes"),
    "threat smaller": ("flight", "type"),
    "events": ("events",),
    "bound": ("coins",),
    "price": ("class", "coins", "coins"),
    "day": ("course",),
    "broken": ("course",),
    "mend": ("course",),
    "guard": (),
    "worst": (),
    "weak": (),
    "room": ("class", "flights"),
    "quote": ("class", "ends", "stops"),
    "board": ("station", "day"),
    "tails": (),
    "duties": ("sits",),
    "gates": ("station", "lead"),
    "promise": ("flights",),
    "safest": ("station", "station", "time"),
    "seats": ("course",),
    "holds": ("minutes", "course"),
    "play": ("course",),
    "blame": ("course",),
}


class Words:
    """The words of a line, taken one by one from the first to the last. What does not fit raises CommandError."""

    def __init__(self, line, chart, threats):
        self.line = line
        self.chart = chart
        self.threats = threats
        self.demand(isinstance(line, str) and chart is not None)
        self.words = line.split(" ")
        self.demand(all([is_name(word) or is_numeral(word) for word in self.words]))

    def demand(self, holds):
        """Raise CommandError unless something holds."""
        if not holds:
            raise CommandError(self.line)

    def take(self):
        """Take the next word and return it."""
        self.demand(self.words != [])
        return self.words.pop(0)

    def take_form(self):
        """Take the words that tell the form, and return them with a space between them."""
        form = self.take()
        if form == "threat":
            form = form + " " + self.take()
        self.demand(form in FORMS)
        return form

    def take_name(self):
        """Take a name of any length."""
        word = self.take()
        self.demand(is_name(word))
        return word

    def take_known(self, table):
        """Take a name that a table has."""
        word = self.take()
        self.demand(is_known(word, table))
        return word

    def take_number(self, low, high):
        """Take a number from low to high."""
        word = self.take()
        self.demand(is_numeral(word) and low <= int(word) <= high)
        return int(word)

    def take_flights(self):
        """Take all words that are left, the names of at least one flight."""
        row = [self.take_known(self.chart.flights)]
        while self.words != []:
            row.append(self.take_known(self.chart.flights))
        return tuple(row)

    def take_course(self):
        """Take all words that are left, ascending places of threats that make a course."""
        course = []
        place = -1
        while self.words != []:
            place = self.take_number(place + 1, len(self.threats) - 1)
            course.append(self.threats[place])
        self.demand(is_course(self.chart, tuple(course)))
        return tuple(course)

    def take_ends(self):
        """Take the names of two unlike stations."""
        start = self.take_known(self.chart.stations)
        end = self.take_known(self.chart.stations)
        self.demand(start != end)
        return (start, end)

    def take_sits(self):
        """Take the least and the most minutes that a crew sits."""
        least = self.take_number(0, MAX_WAIT)
        return (least, self.take_number(least, MAX_WAIT))


def read_line(line, chart, threats):
    """Return the form of a line and what its words stand for, or raise CommandError."""
    words = Words(line, chart, threats)
    form = words.take_form()
    fields = [read_field(words, field) for field in FORMS[form]]
    words.demand(words.words == [])
    return form, fields


def read_field(words, field):
    """Take what stands for a field of a line."""
    tables = {"station": words.chart.stations, "type": words.chart.kinds, "class": words.chart.ranks,
              "flight": words.chart.flights}
    numbers = {"minutes": (1, MAX_LATE), "events": (0, MAX_EVENTS), "coins": (0, MAX_COIN), "stops": (0, MAX_STOPS),
               "day": (-1, 15), "lead": (1, MAX_WAIT), "time": (0, MAX_TIME)}
    if field in tables:
        return words.take_known(tables[field])
    if field in numbers:
        low, high = numbers[field]
        return words.take_number(low, high)
    if field == "name":
        return words.take_name()
    if field == "flights":
        return words.take_flights()
    if field == "course":
        return words.take_course()
    return words.take_ends() if field == "ends" else words.take_sits()
