"""Plain histories of one edition, as if no line had the gear `key`: one host, and the street.

A deed is asked and written at once here, without open entries: what the street does between makes no difference
to the entry. A state is a pair (spot, stand), a scene and a stand by their numbers (see charts).
"""

from asneverbegun.asks import is_undoing
from asneverbegun.charts import Chart, Roll
from asneverbegun.reading import first_stand


class Runs:
    """All states that come about in plain histories of an edition."""

    def __init__(self, system, edition):
        self.chart = Chart(system)
        self.edition = edition
        self.passing = [self.chart.ask_number((name, ())) for name in system.street]
        first = self.chart.stand_number(edition, first_stand(self.chart.forms[edition]))
        self.beginning = [(self.chart.spot_of[scene], first) for scene in system.starts]
        self.states = self._reached()

    def _reached(self):
        found = Roll(self.beginning)
        at = 0
        while at < len(found.rows):
            found.take(self.led_to(found.rows[at]))
            at += 1
        return found.rows

    def led_to(self, state):
        """Returns the states to which a deed of the street, or the next entry, leads."""
        rows = self.passed(state)
        entered = self.entered(state)
        if entered is not None:
            rows.append(entered[3])
        return rows

    def passed(self, state):
        """Returns the states to which a deed of the street leads."""
        spot, number = state
        return [(self.chart.doings[ask][spot][1], number) for ask in self.passing]

    def entered(self, state):
        """Returns what the next entry is: (entry, asker or None, answer or None, state behind), or None."""
        spot, number = state
        kind, what = self.chart.things[number]
        if kind == "over":
            return None
        if kind == "ask":
            answer, there = self.chart.doing(what, spot)
            entry = self.chart.word_of(what) + " " + answer
            return (entry, what, answer, (there, self.chart.stand_behind(number, entry)))
        if what.startswith("cut "):
            return (what, None, None, (spot, self.chart.cut_number(self.edition, what)))
        return (what, None, None, (spot, self.chart.stand_behind(number, what)))

    def line_of_deed(self, asker):
        """Returns the number of the line whose deed an asker asks; None if this is an opposite, or for None."""
        if asker is None or is_undoing(self.chart.asks.rows[self.chart.asking(asker)]):
            return None
        return self.chart.askers.rows[asker][1]

    def stand_of(self, state):
        """Returns the stand of a state."""
        return self.chart.stands.rows[state[1]][1]
