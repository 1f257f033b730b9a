"""Systems: a world, editions of a plan, starts, a street and the tags of the keys."""

from asneverbegun.basics import are_different, are_some_of, is_name, is_number_text, is_sequence
from asneverbegun.errors import InvalidSystem, InvalidText
from asneverbegun.lines import read_line
from asneverbegun.plans import Plan, do_lines
from asneverbegun.worlds import Deed, World, is_scene, sets_back

TAGS = ("cut", "word")


class System:
    """All that histories of one work hang on."""

    def __init__(self, world, editions, starts, street=(), tags=()):
        if not isinstance(world, World):
            raise InvalidSystem("world")
        if not _are_editions(world, editions):
            raise InvalidSystem("editions")
        if not _are_starts(world, starts):
            raise InvalidSystem("starts")
        if not are_some_of(street, [deed.name for deed in world.deeds if not sets_back(deed)]):
            raise InvalidSystem("street")
        if not are_some_of(tags, TAGS):
            raise InvalidSystem("tags")
        self.world = world
        self.editions = tuple(editions)
        self.starts = tuple(sorted(starts))
        self.street = tuple(sorted(street))
        self.tags = tuple(sorted(tags))

    @classmethod
    def read(cls, text):
        """Returns the system with a text."""
        if not isinstance(text, str):
            raise InvalidText(0)
        return system_of(TextReader(text.split("\n"), 0).parts())

    def __eq__(self, other):
        return isinstance(other, System) and str(self) == str(other)

    def __str__(self):
        return "\n".join(_text_lines(self))

    def with_editions(self, editions):
        """Returns the system with other editions."""
        return System(self.world, editions, self.starts, self.street, self.tags)

    def with_street(self, street):
        """Returns the system with another street."""
        return System(self.world, self.editions, self.starts, street, self.tags)

    def with_tags(self, tags):
        """Returns the system with other tags."""
        return System(self.world, self.editions, self.starts, self.street, tags)

    def with_gears(self, edition, gears):
        """Returns the system in which the `do` lines of an edition have these gears."""
        plan = self.editions[edition]
        for at, gear in zip(do_lines(plan), gears):
            plan = plan.with_gear(at, gear)
        return self.with_editions([*self.editions[:edition], plan, *self.editions[edition + 1:]])


def system_of(parts):
    """Returns the system that the parts of a text tell (see TextReader)."""
    cells, tags, starts, street, deeds, editions = parts
    world = World(cells, [Deed.read(line) for line in deeds])
    return System(world, [Plan(lines) for lines in editions], starts, street, tags)


def _are_editions(world, value):
    if not is_sequence(value) or len(value) == 0 or not all([isinstance(plan, Plan) for plan in value]):
        return False
    deeds = {deed.name: deed for deed in world.deeds}
    return all([_is_line_of(form, deeds) for plan in value for form in plan.forms if form[0] == "do"])


def _is_line_of(form, deeds):
    """Tells whether a `do` line goes with these deeds: what its opposite sets back is told by its deed."""
    _, name, opposite, _, _ = form
    if name not in deeds or sets_back(deeds[name]):
        return False
    if opposite is None:
        return True
    if opposite not in deeds:
        return False
    return all([cell in deeds[name].tells for cell, how, _ in deeds[opposite].sets if how == "back"])


def _are_starts(world, value):
    if not is_sequence(value) or len(value) == 0 or not all([is_scene(world, scene) for scene in value]):
        return False
    return are_different(value)


def _text_lines(system):
    lines = ["cells " + ", ".join([f"{name} {size}" for name, size in system.world.cells])]
    lines.append("keys " + _listed(system.tags))
    lines.extend(["start " + " ".join([str(value) for value in scene]) for scene in system.starts])
    lines.append("street " + _listed(system.street))
    lines.extend([str(deed) for deed in system.world.deeds])
    for plan in system.editions:
        lines.extend(["edition", *plan.lines])
    return lines


def _listed(words):
    return " ".join(words) if words else "-"


class TextReader:
    """Reads the lines of the text of a system, one after the other.

    They can be a part of a longer text: then errors tell the number in the whole of it, in which `first` is that of
    the first line.
    """

    def __init__(self, lines, first):
        self.lines = lines
        self.first_number = first
        self.at = 0

    def parts(self):
        """Returns what the lines tell: cells, tags, starts, street, lines of deeds, lines of editions."""
        cells = self._line(_read_cells)
        tags = self._line(_read_tags)
        starts = self._rows(_read_start)
        street = self._line(_read_street)
        deeds = self._rows(_read_deed_line)
        editions = []
        while not editions or self.at < len(self.lines):
            self._line(_read_edition)
            editions.append(self._rows(_read_plan_line))
        return (cells, tags, starts, street, deeds, editions)

    def _line(self, reader):
        """Returns what the next line tells, which must have this form."""
        found = None
        if self.at < len(self.lines):
            found = reader(self.lines[self.at])
        if found is None:
            raise InvalidText(self.first_number + self.at)
        self.at += 1
        return found

    def _rows(self, reader):
        """Returns what the next lines of this form tell, at least one."""
        rows = [self._line(reader)]
        while self.at < len(self.lines) and reader(self.lines[self.at]) is not None:
            rows.append(self._line(reader))
        return rows


def _read_cells(line):
    word, _, rest = line.partition(" ")
    rows = [part.split(" ") for part in rest.split(", ")]
    if word != "cells" or not all([len(row) == 2 and is_name(row[0]) and is_number_text(row[1]) for row in rows]):
        return None
    return [(name, int(size)) for name, size in rows]


def _read_tags(line):
    words = _read_words(line, "keys")
    return words if words is not None and all([word in TAGS for word in words]) else None


def _read_street(line):
    words = _read_words(line, "street")
    return words if words is not None and all([is_name(word) for word in words]) else None


def _read_words(line, head):
    """Returns the words behind the first one, which must be the head (none for a dash)."""
    words = line.split(" ")
    if words[0] != head or len(words) == 1:
        return None
    return [] if words[1:] == ["-"] else words[1:]


def _read_start(line):
    words = line.split(" ")
    if words[0] != "start" or len(words) == 1 or not all([is_number_text(word) for word in words[1:]]):
        return None
    return tuple([int(word) for word in words[1:]])


def _read_deed_line(line):
    try:
        Deed.read(line)
    except InvalidText:
        return None
    return line


def _read_edition(line):
    return line if line == "edition" else None


def _read_plan_line(line):
    return line if read_line(line) is not None else None
