"""Pivots: which lines can still be taken back, and behind which ones all goes on to its end."""

from asneverbegun.charts import Roll
from asneverbegun.runs import Runs


def sure_lines(system, edition):
    """Returns the lot of the `do` lines whose deed is asked, and never answered `no`."""
    course = Course(system, edition)
    asked_lines = sorted(set([line for line, _, _ in course.deeds]))
    refused = [line for line, word, _ in course.deeds if word == "no"]
    return tuple([line for line in asked_lines if line not in refused])


def backed(system, edition):
    """Returns the lot of the `do` lines that are done, with `back` later and no `sure` and no `cut` between."""
    course = Course(system, edition)
    goals = [state for state, entry in course.entries if entry == "back"]
    leading = course.leading_to(goals, True)
    return tuple(sorted(set([line for line, word, behind in course.deeds if word == "ok" and behind in leading])))


def firm(system, edition):
    """Returns the lot of the lines behind which no `back` is written, and no deed is answered `no`."""
    return _firm_lines(Course(system, edition))


def pivots(system, edition):
    """Returns the lot of the `do` lines that are not firm, and that lead to a firm line whenever they are done."""
    course = Course(system, edition)
    lines = _firm_lines(course)
    done_lines = sorted(set([line for line, word, _ in course.deeds if word == "ok"]))
    others = [line for line, word, behind in course.deeds if word == "ok" and course.line_at(behind) not in lines]
    return tuple([line for line in done_lines if line not in lines and line not in others])


def _firm_lines(course):
    leading = course.leading_to(course.endangering(), False)
    lines, others = {}, {}
    for state, _ in course.entries:
        line = course.line_at(state)
        if line is not None:
            lines[line] = True
            if state in leading:
                others[line] = True
    return tuple([line for line in sorted(lines) if line not in others])


class Course:
    """What comes about in plain histories of an edition, entry by entry.

    `entries` has a pair (state, next entry) for each state at which the work is not over; `deeds` has, for each time
    that a deed of a line is asked, a triple (line, first word of the answer, state behind the entry).
    """

    def __init__(self, system, edition):
        self.runs = Runs(system, edition)
        self.entries = []
        self.deeds = []
        self.refusing = []
        self.earlier = {}
        self.earlier_within = {}
        for state in self.runs.states:
            self._take(state)

    def _take(self, state):
        entered = self.runs.entered(state)
        for there in self.runs.passed(state):
            self._note_way(state, there, True)
        if entered is None:
            return
        entry, asker, answer, behind = entered
        self.entries.append((state, entry))
        self._note_way(state, behind, entry != "sure" and not entry.startswith("cut "))
        line = self.runs.line_of_deed(asker)
        if line is not None:
            self.deeds.append((line, answer.split(" ")[0], behind))
            if answer == "no":
                self.refusing.append(state)

    def _note_way(self, state, there, is_within):
        self.earlier.setdefault(there, []).append(state)
        if is_within:
            self.earlier_within.setdefault(there, []).append(state)

    def endangering(self):
        """Returns the states in which `back` is next, or a deed that is answered `no`."""
        return [state for state, entry in self.entries if entry == "back"] + self.refusing

    def leading_to(self, goals, is_within):
        """Returns a dict with the goals and all states that lead to one (within: by no `sure` and no `cut`)."""
        earlier = self.earlier_within if is_within else self.earlier
        found = Roll(goals)
        at = 0
        while at < len(found.rows):
            found.take(earlier.get(found.rows[at], ()))
            at += 1
        return found.numbers

    def line_at(self, state):
        """Returns the number of the line at which a host stands, None if it takes back."""
        line, is_back, _, _ = self.runs.stand_of(state)
        return None if is_back else line
