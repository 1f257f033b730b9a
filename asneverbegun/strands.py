"""One member of a company in plain histories: a system without gears, with one edition."""

from asneverbegun.asks import is_undoing
from asneverbegun.charts import Chart
from asneverbegun.lines import following
from asneverbegun.reading import first_stand
from asneverbegun.worlds import told


class Strand:
    """What a member does next where it stands, and what comes behind it, by the numbers of its chart.

    If it is lean, those values that were told and are given back by no opposite are taken to be 0 in its logs.
    """

    def __init__(self, system, is_lean):
        self.chart = Chart(system)
        self.is_lean = is_lean
        self.forms = self.chart.forms[0]
        self.first = self.chart.stand_number(0, first_stand(self.forms))
        self.ends = {}
        self.behind_answers = {}

    def street_rows(self):
        """Returns for each deed of the street a pair of its event and its doings (see charts)."""
        rows = []
        for name in self.chart.of_system.street:
            rows.append(("street " + name, self.chart.doings[self.chart.ask_number((name, ()))]))
        return rows

    def thing(self, number):
        """Returns what is done next at a stand (see charts)."""
        return self.chart.things[number]

    def doings_at(self, number):
        """Returns the doings of what is asked at a stand."""
        return self.chart.doings[self.chart.asking(self.chart.things[number][1])]

    def is_stuck(self, number, answer):
        """Tells whether an answer to what is asked at a stand is the `no` of an opposite."""
        return answer == "no" and is_undoing(self.chart.asks.rows[self.chart.asking(self.chart.things[number][1])])

    def answered(self, number, answer):
        """Returns the stand behind the entry by which an answer to what is asked at a stand is written."""
        key = (number, answer)
        if key not in self.behind_answers:
            asker = self.chart.things[number][1]
            text = self._lean_answer(asker, answer) if self.is_lean else answer
            self.behind_answers[key] = self.chart.stand_behind(number, self.chart.word_of(asker) + " " + text)
        return self.behind_answers[key]

    def _lean_answer(self, asker, answer):
        _, name, opposite, _, _ = self.forms[self.chart.askers.rows[asker][1]]
        world = self.chart.of_system.world
        given = [] if opposite is None else world.deed(opposite).sets
        cells = [cell for cell, how, _ in given if how == "back"]
        pairs = [] if is_undoing(self.chart.asks.rows[self.chart.asking(asker)]) else told(world, name, answer)
        values = [str(value) if cell in cells else "0" for cell, value in pairs]
        return " ".join([answer.split(" ")[0]] + values)

    def written(self, number):
        """Returns the stand behind the entry that is written next at a stand, which is not that of a deed."""
        entry = self.chart.things[number][1]
        if entry.startswith("cut "):
            return self.chart.cut_number(0, entry)
        return self.chart.stand_behind(number, entry)

    def begins_anew(self, number):
        """Tells whether `sure` or `cut K` is written next at a stand."""
        entry = self.chart.things[number][1]
        return entry == "sure" or entry.startswith("cut ")

    def next_asking(self, number):
        """Returns the stand at which something is asked next, and how many entries are written ahead of it.

        The stand is -1 if nothing is asked any more.
        """
        if number not in self.ends:
            passed, there = [], number
            # By cuts alone a plan can go round for ever.
            while self.thing(there)[0] == "write" and there not in passed:
                passed.append(there)
                there = self.written(there)
            self.ends[number] = (there, len(passed)) if self.thing(there)[0] == "ask" else (-1, 0)
        return self.ends[number]

    def can_be_stuck(self):
        """Tells whether some opposite in a line needs something."""
        names = [form[2] for form in self.forms if form[2] is not None]
        return any([len(self.chart.of_system.world.deed(name).needs) > 0 for name in names])

    def has_answers(self, names):
        """Tells whether some of these deeds is answered otherwise at one scene than at another one."""
        deeds = [self.chart.of_system.world.deed(name) for name in names]
        return any([len(deed.needs) > 0 or len(deed.tells) > 0 for deed in deeds])

    def line_at(self, number):
        """Returns the number of the line of a stand."""
        return self.chart.stands.rows[number][1][0]

    def lines_ahead_of_back(self):
        """Returns a dict with the lines from which `back` can be reached."""
        found = {}
        for _ in self.forms:
            for at, form in enumerate(self.forms):
                if form[0] == "back" or any([there in found for there in following(self.forms, at)]):
                    found[at] = True
        return found
