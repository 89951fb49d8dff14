"""Sessions: a net, what is sold on it, and the days that threaten it, told line by line."""

from interline.answers import answer_to
from interline.tickets import Office
from interline.words import read_net


class Session:
    """Answers lines about a net, an office, threats, prices and a bound, and keeps what it has answered."""

    def __init__(self):
        self.net = None
        self.office = None
        self.threats = ()
        self.most = 1
        self.prices = ((), ())
        self.bound = 0
        self.lines = []

    def load(self, text):
        """Read a net, check it, and begin anew with it; where that raises an error, nothing changes."""
        net = read_net(text)
        office = Office(net)
        many = len(office.chart.ranks)
        self.net = net
        self.office = office
        self.threats = ()
        self.most = 1
        self.prices = ((1,) * many, (1000,) * many)
        self.bound = 0

    def answer(self, line):
        """Return the lines that answer a line, and keep them; where that raises an error, nothing changes."""
        found = tuple(answer_to(self, line))
        self.lines.extend(found)
        return found

    def __len__(self):
        """Return how many lines were answered."""
        return len(self.lines)

    def __iter__(self):
        """Walk through all lines that were answered, in order."""
        return iter(self.lines)
