"""The local times of stations."""

from interline.asking import require, require_name
from interline.charts import checked_chart
from interline.kinds import is_integer, is_within
from interline.limits import MAX_TIME
from interline.tokens import DIGITS, is_numeral

DAY_MINUTES = 1440


def local_text(net, station, time):
    """Return the text of the local time of a station at a time."""
    chart = checked_chart(net)
    require_name(station, chart.stations, "station")
    require(is_within(time, -MAX_TIME, 2 * MAX_TIME), "time")
    day, minute = local_day(chart.stations[station], time)
    hour, rest = divmod(minute, 60)
    return f"{day} {hour:02d} {rest:02d}"


def local_day(station, time):
    """Return the local day of a station at a time, and the minute of that day."""
    return divmod(time + station.zone, DAY_MINUTES)


def local_time(net, station, text):
    """Return the time that the text of a local time tells at a station."""
    chart = checked_chart(net)
    require_name(station, chart.stations, "station")
    require(is_local_text(text), "time")
    day, hour, rest = [int(word) for word in text.split(" ")]
    return DAY_MINUTES * day + 60 * hour + rest - chart.stations[station].zone


def is_local_text(value):
    """Tell whether a value is the text of a local time."""
    if not isinstance(value, str):
        return False
    words = value.split(" ")
    if len(words) != 3 or not is_numeral(words[0]):
        return False
    return is_two_digits(words[1], 23) and is_two_digits(words[2], 59)


def is_two_digits(word, most):
    """Tell whether a string is a number up to `most`, told by exactly two digits."""
    if len(word) != 2 or not all([sign in DIGITS for sign in word]):
        return False
    return int(word) <= most


def board(net, station, day):
    """Return what departs and arrives at a station on a local day, in ascending order."""
    chart = checked_chart(net)
    require_name(station, chart.stations, "station")
    require(is_integer(day), "day")
    found = []
    for flight in chart.flights.values():
        if flight.start == station:
            found.append((flight.depart, "depart", flight.name))
        if flight.end == station:
            found.append((flight.arrive, "arrive", flight.name))
    local = [(local_day(chart.stations[station], time), word, name) for time, word, name in found]
    return tuple(sorted([(minute, word, name) for (at, minute), word, name in local if at == day]))
