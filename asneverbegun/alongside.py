"""Plain histories of the elder edition, and what the newer edition reads of their logs.

A state is a tuple (spot, elder, newer, is_open): the scene, and the stands with the log without its open entry, all
by their numbers (see charts); newer is -1 if this log is not read.
"""

from asneverbegun.charts import Chart, Roll
from asneverbegun.reading import first_stand


class Alongside:
    """All states that come about in plain histories of the elder edition.

    `behind_cuts` has the entry `cut K` for each state that comes right behind one.
    """

    def __init__(self, system):
        self.chart = Chart(system)
        self.passing = [self.chart.ask_number((name, ())) for name in system.street]
        first = [self.chart.stand_number(at, first_stand(forms)) for at, forms in enumerate(self.chart.forms)]
        self.beginning = [(self.chart.spot_of[scene], first[0], first[1], False) for scene in system.starts]
        self.behind_cuts = {}
        self.states = self._reached()

    def _reached(self):
        found = Roll(self.beginning)
        at = 0
        while at < len(found.rows):
            state = found.rows[at]
            found.take(self.passed(state))
            entered = self.entered(state)
            if entered is not None:
                found.number(entered[1])
                if entered[0].startswith("cut "):
                    self.behind_cuts[entered[1]] = entered[0]
            at += 1
        return found.rows

    def passed(self, state):
        """Returns the states to which a deed of the street leads."""
        spot, elder, newer, is_open = state
        return [(self.chart.doings[ask][spot][1], elder, newer, is_open) for ask in self.passing]

    def entered(self, state):
        """Returns the next entry and the state behind it, or None if the work is over."""
        spot, elder, newer, is_open = state
        kind, what = self.chart.things[elder]
        if kind == "over":
            return None
        if kind == "write" and what.startswith("cut "):
            return (what, (spot, self.chart.cut_number(0, what), self.chart.cut_number(1, what), False))
        if kind == "ask" and not is_open and self.chart.has_gear(what, "ahead"):
            return (self.chart.word_of(what) + " ?", (spot, elder, newer, True))
        entry = what
        if kind == "ask":
            answer, spot = self.chart.doing(what, spot)
            entry = self.chart.word_of(what) + " " + answer
        behind = (self.chart.stand_behind(elder, entry), self.chart.stand_behind(newer, entry))
        return (entry, (spot, behind[0], behind[1], False))

    def is_read(self, state):
        """Tells whether the newer edition reads the log of a state, with its open entry if there is one."""
        _, elder, newer, is_open = state
        if newer == -1 or not is_open:
            return newer != -1
        other = self.asker_at(newer)
        if other is None or not self.chart.has_gear(other, "ahead"):
            return False
        return self.chart.word_of(other) == self.chart.word_of(self.asker_at(elder))

    def asker_at(self, number):
        """Returns who asks at a stand; None if nothing is asked there, or there is no stand."""
        if number == -1:
            return None
        kind, what = self.chart.things[number]
        return what if kind == "ask" else None

    def stand_at(self, number, is_open):
        """Returns a stand, with an open entry or without one."""
        line, is_back, _, stack = self.chart.stands.rows[number][1]
        return (line, is_back, is_open, stack)
