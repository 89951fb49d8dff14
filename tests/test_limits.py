"""Point 5: the limits."""

import unittest

from interline import limits

TOLD = {
    "MAX_TIME": 20160, "MAX_STATIONS": 12, "MAX_TYPES": 4, "MAX_CLASSES": 6, "MAX_FLIGHTS": 40, "MAX_TAILS": 12,
    "MAX_FARES": 40, "MAX_STOPS": 3, "MAX_WAIT": 1440, "MAX_COIN": 1000000, "MAX_TEXT": 12000, "MAX_NAME": 12,
    "MAX_BOOKINGS": 60, "MAX_THREATS": 12, "MAX_EVENTS": 3, "MAX_COURSES": 250, "MAX_WAYS": 60,
    "MAX_CHOICES": 600, "MAX_BIDS": 24, "MAX_STEPS": 12, "MAX_SHIFTS": 3, "MAX_JOURNEYS": 400,
    "MAX_REQUESTS": 24, "MAX_WINDOWS": 48, "MAX_ITEMS": 60, "MAX_GROUPS": 10, "MAX_SEATED": 12, "MAX_SPARES": 3,
    "MAX_HOLDS": 3, "MAX_CARRIERS": 10, "MAX_MINUTES": 180, "MAX_PAPER": 100, "MAX_LOG": 200, "MAX_BAGS": 20,
    "MAX_SCANS": 700, "BAG_MINUTES": 20,
}


class LimitsTest(unittest.TestCase):

    def test_each_limit_has_its_value(self):
        found = {name: value for name, value in vars(limits).items() if name.isupper()}
        self.assertEqual(found, TOLD)

    def test_limits_are_integers(self):
        for name in TOLD:
            self.assertIs(type(getattr(limits, name)), int)


if __name__ == "__main__":
    unittest.main()
