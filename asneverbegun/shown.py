"""What a history shows, and whether one host without falls could have made it, beside the street."""

from asneverbegun.charts import Chart
from asneverbegun.views import views


def shown(system, start, edition, events):
    """Returns what a history shows: the row of scenes, each told once as long as it stays, and the log."""
    return views(system, start, edition, events)[-1]


def explained(system, start, edition, row, log):
    """Returns a shortest history without late deeds and lost answers that shows just this, or None."""
    return Explainer(Chart(system), row, log).history(start, edition)


def accused(system, start, edition, events):
    """Returns the number of the first event by which what is shown is not explained; None if all is in the end."""
    found = views(system, start, edition, events)
    chart = Chart(system)
    if _is_explained(chart, start, edition, found[-1]):
        return None
    at = 0
    while _is_explained(chart, start, edition, found[at]):
        at += 1
    # The first view is that ahead of all events.
    return at - 1


def _is_explained(chart, start, edition, view):
    return Explainer(chart, view[0], view[1]).history(start, edition) is not None


class Explainer:
    """Looks for a history that shows a row and a log, event by event.

    A state is a tuple (at, place, node, edition, is_open, held): the index in the row; the number of closed entries
    of the log that are there, or -1 as long as an elder log is written; and the host, as in the walker.
    """

    def __init__(self, chart, row, log):
        self.chart = chart
        self.row = [chart.spot_of[scene] for scene in row]
        self.goal = len(self.row) - 1
        self.log = list(log)
        self.left_open = None
        if self.log and self.log[-1].endswith(" ?"):
            self.left_open = self.log.pop()
        asks = [chart.ask_number((name, ())) for name in chart.of_system.street]
        self.passing = [("street " + name, ask) for name, ask in zip(chart.of_system.street, asks)]

    def history(self, start, edition):
        """Returns the events of a history, or None if there is none."""
        if self.chart.spot_of[start] != self.row[0]:
            return None
        is_new = len(self.log) > 0 and self.log[0].startswith("cut ")
        first = (0, -1 if is_new else 0, self.chart.first_node(edition), edition, False, None)
        ways, queue = {first: (None, None)}, [first]
        at = 0
        while at < len(queue):
            state = queue[at]
            if self._is_goal(state):
                return _events_to(ways, state)
            for event, behind in self._steps(state):
                if behind not in ways:
                    ways[behind] = (state, event)
                    queue.append(behind)
            at += 1
        return None

    def _is_goal(self, state):
        at, place, _, _, is_open, _ = state
        return at == self.goal and place == len(self.log) and is_open == (self.left_open is not None)

    def _steps(self, state):
        """Returns the pairs (event, state behind it) that can still lead to the goal."""
        at, place, node, edition, is_open, held = state
        out = []
        for event, ask in self.passing:
            beyond = self._moved(at, self.chart.doings[ask][self.row[at]][1])
            if beyond is not None and beyond != at:
                out.append((event, (beyond, place, node, edition, is_open, held)))
        kind, what = self.chart.thing(node, edition)
        if held is not None:
            self._add_closed(state, "write", self.chart.word_of(what) + " " + held, out)
        elif kind == "write":
            self._add_closed(state, "next", what, out)
        elif kind == "ask":
            self._add_asking(state, what, out)
        if held is None:
            self._add_over(state, out)
        return out

    def _moved(self, at, spot):
        """Returns the index in the row when the scene is this one; None if this is not shown."""
        if spot == self.row[at]:
            return at
        return at + 1 if at < self.goal and spot == self.row[at + 1] else None

    def _add_asking(self, state, asker, out):
        at, place, node, edition, is_open, _ = state
        if self.chart.has_gear(asker, "ahead") and not is_open:
            if place < len(self.log) or self.chart.word_of(asker) + " ?" == self.left_open:
                out.append(("next", (at, place, node, edition, True, None)))
            return
        answer, spot = self.chart.doing(asker, self.row[at])
        beyond = self._moved(at, spot)
        if beyond is not None:
            out.append(("next", (beyond, place, node, edition, is_open, answer)))

    def _add_closed(self, state, event, entry, out):
        at, place, node, edition, _, _ = state
        is_cut = entry.startswith("cut ")
        if place == -1:
            node = self.chart.behind(node, edition, entry)
            out.append((event, (at, -1, node, edition, False, None)))
            if is_cut and entry == self.log[0]:
                out.append((event, (at, 1, node, edition, False, None)))
        elif not is_cut and place < len(self.log) and entry == self.log[place]:
            node = self.chart.behind(node, edition, entry)
            out.append((event, (at, place + 1, node, edition, False, None)))

    def _add_over(self, state, out):
        at, place, node, edition, is_open, _ = state
        asker = self.chart.thing(node, edition)[1]
        for newer in range(edition + 1, len(self.chart.forms)):
            is_read = self.chart.nodes.rows[node][newer] != -1
            if is_read and (not is_open or self.chart.reads_open(node, newer, asker)):
                beyond = self.chart.narrowed(node, newer)
                out.append((f"over {newer}", (at, place, beyond, newer, is_open, None)))


def _events_to(ways, state):
    """Returns the events that lead to a state."""
    events = []
    while ways[state][0] is not None:
        state, event = ways[state]
        events.append(event)
    return tuple(events[::-1])
