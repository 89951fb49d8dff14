"""Logs of scanned bags: a judge of them, and a plan that it accepts."""

from interline.asking import require
from interline.bags import bag_minutes, left_behind, way_home
from interline.bookings import require_bookings
from interline.broken import find_breaks
from interline.charts import checked_chart
from interline.courses import asked_course
from interline.errors import LogError
from interline.kinds import are_unlike, is_integer, is_known, is_row, is_short
from interline.limits import MAX_BAGS, MAX_SCANS

WORDS = ("in", "load", "off", "rush", "out")


class Traveller:
    """A booking in a course: the flights that carry the traveller, and where bags may be handed out."""

    def __init__(self, chart, journey, leg):
        self.journey = journey
        self.carried = journey[:leg]
        self.ends = [chart.flights[journey[-1]].end]
        if leg < len(journey):
            self.ends.append(chart.flights[journey[leg]].start)


class Bag:
    """A bag that was handed in: where it stands, or the flight that it is on."""

    def __init__(self, traveller, station):
        self.traveller = traveller
        self.station = station
        self.flight = None
        self.is_out = False
        self.has_rush = False
        self.taken_out = None

    def row(self, tag):
        """Return what has become of the bag, as (tag, state, place)."""
        if self.is_out:
            return (tag, "out", self.station)
        if self.flight is None:
            return (tag, "stands", self.station)
        return (tag, "flies", self.flight)


class Judge:
    """Visits the scans of a course, and knows what has become of the bags."""

    def __init__(self, chart, flown, bookings):
        self.chart = chart
        self.flown = flown
        self.travellers = travellers_of(chart, flown, bookings)
        self.bags = {}
        self.now = None

    def fault(self, entry):
        """Return the reason why an entry is wrong, or an empty string."""
        if not is_entry(entry):
            return "entry"
        time, word, tag, name = entry
        if self.now is not None and time < self.now:
            return "time"
        if word == "in":
            return "tag" if tag in self.bags else self.fault_of_in(time, name)
        if tag not in self.bags or self.bags[tag].is_out:
            return "tag"
        if word == "load":
            return self.fault_of_load(time, self.bags[tag], name)
        if word == "off":
            return self.fault_of_off(time, self.bags[tag], name)
        if self.bags[tag].station != name:
            return "place"
        if word == "rush":
            return "" if self.may_rush(time, self.bags[tag]) else "waits"
        return "" if name in self.bags[tag].traveller.ends else "end"

    def fault_of_in(self, time, name):
        """Return the reason why a bag cannot be handed in for a booking, or an empty string."""
        if name not in self.travellers:
            return "name"
        told = self.flown[self.travellers[name].journey[0]]
        return "late" if told is None or told[0] < time else ""

    def fault_of_load(self, time, bag, name):
        """Return the reason why a bag cannot be put into a flight, or an empty string."""
        if name not in self.chart.flights or self.flown[name] is None:
            return "flight"
        station = self.chart.flights[name].start
        depart = self.flown[name][0]
        if bag.station != station:
            return "place"
        if depart < time:
            return "gone"
        if bag.taken_out is not None and depart < bag.taken_out + bag_minutes(self.chart, station):
            return "soon"
        return "" if bag.has_rush or name in bag.traveller.carried else "alone"

    def fault_of_off(self, time, bag, name):
        """Return the reason why a bag cannot be taken out of its flight at a station, or an empty string."""
        if bag.flight is None or self.chart.flights[bag.flight].end != name:
            return "place"
        return "early" if self.flown[bag.flight][1] > time else ""

    def may_rush(self, time, bag):
        """Tell whether the traveller of a bag has left the station where it stands, and has left it there."""
        departs = [self.flown[name][0] for name in bag.traveller.carried
                   if self.chart.flights[name].start == bag.station]
        return any([depart <= time and (bag.taken_out is None or depart >= bag.taken_out) for depart in departs])

    def do(self, entry):
        """Do an entry that is right."""
        time, word, tag, name = entry
        self.now = time
        if word == "in":
            traveller = self.travellers[name]
            self.bags[tag] = Bag(traveller, self.chart.flights[traveller.journey[0]].start)
            return
        bag = self.bags[tag]
        if word == "load":
            bag.station = None
            bag.flight = name
        elif word == "off":
            bag.station = name
            bag.flight = None
            bag.taken_out = time
        elif word == "rush":
            bag.has_rush = True
        else:
            bag.is_out = True


def travellers_of(chart, flown, bookings):
    """Return the travellers of bookings in a course, by their names."""
    breaks = find_breaks(chart, flown, bookings)
    return {name: Traveller(chart, journey, leg) for (name, _, journey), (leg, _) in zip(bookings, breaks)}


def is_entry(value):
    """Tell whether a value is a tuple of an integer, one of the words, and two strings."""
    if not is_row(value, 4) or not is_integer(value[0]) or not is_known(value[1], WORDS):
        return False
    return isinstance(value[2], str) and isinstance(value[3], str)


def judge(net, bookings, course, scans):
    """Return what becomes of the bags of a log, in the order in which they came in."""
    chart, flown = asked_day(net, bookings, course)
    require(is_short(scans, MAX_SCANS), "scans")
    judged = Judge(chart, flown, bookings)
    for number, entry in enumerate(scans):
        reason = judged.fault(entry)
        if reason != "":
            raise LogError(number, reason)
        judged.do(entry)
    return tuple([bag.row(tag) for tag, bag in judged.bags.items()])


def asked_day(net, bookings, course):
    """Return the chart and what becomes of its flights for arguments that may be wrong."""
    chart = checked_chart(net)
    flown = asked_course(chart, course)
    require_bookings(chart, bookings)
    return chart, flown


def scan_plan(net, bookings, course, bags):
    """Return a log that the judge accepts, by which bags go with their travellers as far as they can."""
    chart, flown = asked_day(net, bookings, course)
    require(are_bags(bags, [booking[0] for booking in bookings]), "bags")
    travellers = travellers_of(chart, flown, bookings)
    rows = []
    for place, (tag, name) in enumerate(bags):
        steps = steps_of(chart, flown, travellers[name], name)
        rows.extend([(time, place, number, word, tag, where) for number, (time, word, where) in enumerate(steps)])
    return tuple([(time, word, tag, where) for time, _, _, word, tag, where in sorted(rows)])


def are_bags(value, names):
    """Tell whether a value is bags of bookings with these names."""
    if not is_short(value, MAX_BAGS):
        return False
    if not all([is_row(bag, 2) and isinstance(bag[0], str) and is_known(bag[1], names) for bag in value]):
        return False
    return are_unlike([tag for tag, _ in value])


def steps_of(chart, flown, traveller, name):
    """Return what is done with the bag of a traveller: the time, the word and the name of each entry."""
    carried = traveller.carried
    if carried == ():
        return []
    left = left_behind(chart, flown, traveller.journey, len(carried))
    first = (flown[carried[0]][0], "in", name)
    if left is None:
        steps = [first, *flight_steps(chart, flown, carried)]
        return [*steps, out_behind(steps)]
    leg, station, _ = left
    steps = [first, *flight_steps(chart, flown, carried[:leg])]
    home = way_home(chart, flown, traveller.journey, left)
    if home == ():
        return steps
    if home[1] != ():
        # The bag may go alone once its traveller has left without it.
        steps.append((flown[carried[leg]][0], "rush", station))
        steps.extend(flight_steps(chart, flown, home[1]))
    return [*steps, out_behind(steps)]


def flight_steps(chart, flown, row):
    """Return the steps by which a bag goes on some flights, one after the other."""
    steps = []
    for name in row:
        depart, arrive, _ = flown[name]
        steps.append((depart, "load", name))
        steps.append((arrive, "off", chart.flights[name].end))
    return steps


def out_behind(steps):
    """Return the step that hands a bag out where the last step took it out of a flight."""
    time, _, station = steps[-1]
    return (time, "out", station)
