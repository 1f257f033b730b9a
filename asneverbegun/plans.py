"""Plans: the editions of a work, and how they read logs."""

from asneverbegun.basics import is_integer, is_sequence
from asneverbegun.errors import InvalidLog, InvalidPlan, InvalidText, NoLine
from asneverbegun.lines import GEAR, line_text, read_lines
from asneverbegun.reading import is_entry, stand_of


class Plan:
    """One edition of a work: its lines (and their forms, see lines)."""

    def __init__(self, lines):
        forms = read_lines(lines)
        if forms is None:
            raise InvalidPlan("lines")
        self.lines = tuple(lines)
        self.forms = forms

    @classmethod
    def read(cls, text):
        """Returns the plan with a text."""
        if not isinstance(text, str) or read_lines(text.split("\n")) is None:
            raise InvalidText(0)
        return cls(text.split("\n"))

    def __len__(self):
        return len(self.lines)

    def __eq__(self, other):
        return isinstance(other, Plan) and self.lines == other.lines

    def __str__(self):
        return "\n".join(self.lines)

    def deed(self, at):
        """Returns the name of the deed in a line, or None."""
        if not _is_line(self, at):
            raise NoLine(at)
        return self.forms[at][1]

    def opposite(self, at):
        """Returns the name of the opposite in a line, or None."""
        if not _is_line(self, at):
            raise NoLine(at)
        return self.forms[at][2]

    def gear(self, at):
        """Returns the lot of the gear words of a line."""
        if not _is_line(self, at):
            raise NoLine(at)
        return self.forms[at][3]

    def with_gear(self, at, gear):
        """Returns the plan whose `do` line with this number has another gear."""
        if not is_do_line(self, at):
            raise NoLine(at)
        kind, deed, opposite, _, goal = self.forms[at]
        words = tuple([word for word in GEAR if word in gear])
        line = line_text((kind, deed, opposite, words, goal))
        return Plan([*self.lines[:at], line, *self.lines[at + 1:]])


def stand(plan, log):
    """Returns where a plan stands with a log: (line, is_back, is_open, stack), or None if it does not read it."""
    if not is_sequence(log):
        raise InvalidLog(0)
    for at, entry in enumerate(log):
        if not is_entry(entry):
            raise InvalidLog(at)
    return stand_of(plan.forms, log)


def do_lines(plan):
    """Returns the numbers of the `do` lines of a plan."""
    return tuple([at for at, form in enumerate(plan.forms) if form[0] == "do"])


def is_do_line(plan, value):
    """Tells whether any value is the number of a `do` line of a plan."""
    return _is_line(plan, value) and plan.forms[value][0] == "do"


def _is_line(plan, value):
    return is_integer(value) and 0 <= value < len(plan.forms)
