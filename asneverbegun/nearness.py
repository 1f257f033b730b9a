"""How soon a key is used again in a later log, where keys do not tell the cut.

A state is a tuple (spot, stand, place): as in runs, with the number of the next place in the log.
"""

from asneverbegun.charts import Roll
from asneverbegun.runs import Runs


def least_distance(system):
    """Returns the least age of a place, asked for under a key, when this key is used in a later log, or None."""
    keys = Keys(system)
    best = None
    for key in keys.arrivals:
        age = keys.distance(key, best)
        if age is not None:
            best = age
    return best


class Keys:
    """The keys under which something is remembered in plain histories.

    `arrivals` has for each key the states behind the entries for which it was used.
    """

    def __init__(self, system):
        self.runs = Runs(system, 0)
        self.is_wordless = "word" not in system.tags
        self.arrivals = {}
        found = Roll([(spot, number, 0) for spot, number in self.runs.beginning])
        at = 0
        while at < len(found.rows):
            state = found.rows[at]
            found.take(self._passed(state))
            entered = self._entered(state)
            if entered is not None:
                found.number(entered[0])
                key = self._key(state)
                if key is not None:
                    self.arrivals.setdefault(key, Roll()).number(entered[0])
            at += 1

    def distance(self, key, best):
        """Returns in how many entries a key is used again in a later log, if they are less than the best so far."""
        level = Roll([(state, False) for state in self.arrivals[key].rows])
        seen = {}
        age = 1
        while level.rows and (best is None or age < best):
            behind = Roll()
            at = 0
            while at < len(level.rows):
                state, is_later = level.rows[at]
                at += 1
                if (state, is_later) in seen:
                    continue
                seen[(state, is_later)] = True
                if is_later and self._key(state) == key:
                    return age
                level.take([(other, is_later) for other in self._passed(state)])
                entered = self._entered(state)
                if entered is not None:
                    behind.number((entered[0], is_later or entered[1]))
            level = behind
            age += 1
        return None

    def _key(self, state):
        """Returns the key under which what is next is remembered: the place and perhaps the ask; None if it is not."""
        kind, what = self.runs.chart.things[state[1]]
        if kind != "ask" or not self.runs.chart.has_gear(what, "key"):
            return None
        return (state[2], -1 if self.is_wordless else self.runs.chart.asking(what))

    def _passed(self, state):
        return [(spot, number, state[2]) for spot, number in self.runs.passed((state[0], state[1]))]

    def _entered(self, state):
        """Returns the state behind the next entry, and whether it begins a new log; None if the work is over."""
        entered = self.runs.entered((state[0], state[1]))
        if entered is None:
            return None
        is_cut = entered[0].startswith("cut ")
        spot, number = entered[3]
        return ((spot, number, 1 if is_cut else state[2] + 1), is_cut)
