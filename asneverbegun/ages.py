"""Ages of places: how plain histories go on behind the entries of a line, one closed entry after the other.

An arrival is a state (see runs) right behind a closed entry. At an age come about all scenes from an arrival to the
next one: those that the street makes, and those behind the next deed, as long as its answer is not written.
"""

from asneverbegun.charts import Roll
from asneverbegun.runs import Runs


class Ages:
    """The plain histories of the only edition of a system, from arrival to arrival."""

    def __init__(self, system):
        self.runs = Runs(system, 0)
        self.chart = self.runs.chart
        self.reachable = [self._by_street(spot) for spot in range(len(self.chart.spots))]
        self.onward = {}

    def _by_street(self, spot):
        """Returns the scenes to which deeds of the street lead from one, and itself."""
        found = Roll([spot])
        at = 0
        while at < len(found.rows):
            found.take([self.chart.doings[ask][found.rows[at]][1] for ask in self.runs.passing])
            at += 1
        return found.rows

    def askings(self, line):
        """Returns the arrivals behind the askings of a line, for each ask by its number."""
        found = {}
        for state in self.runs.states:
            entered = self.runs.entered(state)
            if entered is not None and entered[1] is not None:
                if self.chart.askers.rows[entered[1]][1] == line:
                    found.setdefault(self.chart.asking(entered[1]), Roll()).number(entered[3])
        return {ask: found[ask].rows for ask in found}

    def _beyond(self, arrival):
        """Returns the scenes from an arrival to the next ones, and these."""
        if arrival not in self.onward:
            scenes, arrivals = Roll(), Roll()
            for spot in self.reachable[arrival[0]]:
                scenes.number(spot)
                entered = self.runs.entered((spot, arrival[1]))
                if entered is not None:
                    scenes.take(self.reachable[entered[3][0]])
                    arrivals.number(entered[3])
            self.onward[arrival] = (scenes.rows, arrivals.rows)
        return self.onward[arrival]

    def is_harmful(self, ask, level):
        """Tells whether asking once more changes the scene between these arrivals and the next ones."""
        doings = self.chart.doings[ask]
        return any([doings[spot][1] != spot for arrival in level for spot in self._beyond(arrival)[0]])

    def next_level(self, level):
        """Returns the arrivals that come next behind these ones."""
        found = Roll()
        for arrival in level:
            found.take(self._beyond(arrival)[1])
        return found.rows


class Harmful:
    """The ages at which it is harmful to do once more what a line asks: the same ones again and again in the end.

    `flags` tells of each age from 1 on whether it is harmful, up to the age from which all repeats itself;
    `period` is how many of the last of these ages come again, 0 if all histories end.
    """

    def __init__(self, ages, ask, level):
        self.flags = []
        self.period = 0
        seen = {}
        key = tuple(sorted(level))
        while level and key not in seen:
            seen[key] = len(self.flags)
            self.flags.append(ages.is_harmful(ask, level))
            level = ages.next_level(level)
            key = tuple(sorted(level))
        if level:
            self.period = len(self.flags) - seen[key]

    def is_harmful_at(self, age):
        """Tells whether an age (from 1 on) is harmful."""
        size = len(self.flags)
        if age > size and self.period > 0:
            age = size - (size - age) % self.period
        return age <= size and self.flags[age - 1]

    def least(self):
        """Returns the least harmful age, None if there is none."""
        found = [at + 1 for at, flag in enumerate(self.flags) if flag]
        return found[0] if found else None

    def greatest(self):
        """Returns the greatest harmful age, 0 if there is none; None if there is no greatest one."""
        if self.period > 0 and any(self.flags[-self.period:]):
            return None
        return self.greatest_up_to(len(self.flags))

    def greatest_up_to(self, most):
        """Returns the greatest harmful age that is not above a number, 0 if there is none."""
        size = len(self.flags)
        # Whatever comes again and again does so within the last period.
        rows = list(range(1, min(most, size) + 1)) + list(range(max(size, most - self.period) + 1, most + 1))
        return max([0] + [age for age in rows if self.is_harmful_at(age)])


def harmful_ages(system, line):
    """Returns what is harmful (see Harmful) for each ask of a line."""
    ages = Ages(system)
    askings = ages.askings(line)
    return [Harmful(ages, ask, askings[ask]) for ask in askings]
