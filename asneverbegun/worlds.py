"""Deeds, worlds of cells, and what a deed does at a scene."""

from asneverbegun.basics import (
    are_different, digits_of, is_integer, is_name, is_number, is_number_text, is_sequence, is_tuple
)
from asneverbegun.errors import InvalidDeed, InvalidScene, InvalidText, InvalidWorld, NoName


class Deed:
    """Something that can be done: what it needs, what it sets, what it tells."""

    def __init__(self, name, needs=(), sets=(), tells=()):
        if not is_name(name):
            raise InvalidDeed("name")
        if not _are_needs(needs):
            raise InvalidDeed("needs")
        if not _are_sets(sets):
            raise InvalidDeed("sets")
        if not _are_tells(tells):
            raise InvalidDeed("tells")
        self.name = name
        self.needs = tuple(sorted(needs))
        self.sets = tuple(sorted(sets))
        self.tells = tuple(sorted(tells))

    @classmethod
    def read(cls, text):
        """Returns the deed with a text, whose parts may stand in any order."""
        told_parts = _read_deed(text)
        if told_parts is None:
            raise InvalidText(0)
        name, needs, sets, tells = told_parts
        return cls(name, needs, sets, tells)

    def __eq__(self, other):
        return isinstance(other, Deed) and str(self) == str(other)

    def __str__(self):
        return f"deed {self.name}: {_parts_text(self)}"


class World:
    """Cells with their sizes, and the deeds that can be done there."""

    def __init__(self, cells, deeds):
        if not _are_cells(cells):
            raise InvalidWorld("cells")
        if not _are_deeds(deeds, dict(cells)):
            raise InvalidWorld("deeds")
        self.cells = tuple(cells)
        self.deeds = tuple(deeds)

    def deed(self, name):
        """Returns the deed with a name."""
        for deed in self.deeds:
            if deed.name == name:
                return deed
        raise NoName(name)

    def scenes(self):
        """Returns the lot of all scenes."""
        rows = [()]
        for _, size in self.cells:
            rows = [(*row, value) for row in rows for value in range(size)]
        return tuple(rows)


def done(world, scene, name, old=()):
    """Does a deed at a scene: returns its answer and the scene behind it."""
    if not is_scene(world, scene):
        raise InvalidScene()
    deed = world.deed(name)
    cells = [cell for cell, _ in world.cells]
    values = dict(zip(cells, scene))
    if any([values[cell] != value for cell, value in deed.needs]):
        return ("no", scene)
    answer = " ".join(["ok"] + [str(values[cell]) for cell in deed.tells])
    sizes = dict(world.cells)
    given = dict(old)
    for cell, how, number in deed.sets:
        if how == "to":
            values[cell] = number
        elif how == "by":
            values[cell] = (values[cell] + number) % sizes[cell]
        else:
            values[cell] = given.get(cell, values[cell])
    return (answer, tuple([values[cell] for cell in cells]))


def told(world, name, answer):
    """Returns the lot of the pairs of a cell and a value that an answer of a deed tells."""
    words = answer.split(" ")
    if words[0] != "ok":
        return ()
    return tuple([(cell, int(word)) for cell, word in zip(world.deed(name).tells, words[1:])])


def is_scene(world, value):
    """Tells whether any value is a scene of a world."""
    if not is_tuple(value, len(world.cells)):
        return False
    return all([is_number(there) and there < cell[1] for there, cell in zip(value, world.cells)])


def sets_back(deed):
    """Tells whether a deed sets a cell back, so that it can only be an opposite."""
    return any([row[1] == "back" for row in deed.sets])


def _are_needs(value):
    if not is_sequence(value) or not all([is_tuple(row, 2) for row in value]):
        return False
    return _are_different_cells(value) and all([is_number(number) for _, number in value])


def _are_sets(value):
    if not is_sequence(value) or not all([is_tuple(row, 3) for row in value]):
        return False
    return _are_different_cells(value) and all([_is_setting(how, number) for _, how, number in value])


def _is_setting(how, number):
    if not isinstance(how, str) or not is_integer(number):
        return False
    if how == "back":
        return number == 0
    return how == "to" and number >= 0 or how == "by" and number >= 1


def _are_tells(value):
    return is_sequence(value) and all([is_name(cell) for cell in value]) and are_different(value)


def _are_different_cells(rows):
    cells = [row[0] for row in rows]
    return all([is_name(cell) for cell in cells]) and are_different(cells)


def _are_cells(value):
    if not is_sequence(value) or len(value) == 0 or not all([is_tuple(row, 2) for row in value]):
        return False
    return _are_different_cells(value) and all([is_integer(size) and 2 <= size <= 4 for _, size in value])


def _are_deeds(value, sizes):
    if not is_sequence(value) or not all([isinstance(deed, Deed) for deed in value]):
        return False
    return are_different([deed.name for deed in value]) and all([_fits(deed, sizes) for deed in value])


def _fits(deed, sizes):
    numbers = [*deed.needs, *[(cell, number) for cell, _, number in deed.sets], *[(cell, 0) for cell in deed.tells]]
    return all([cell in sizes and number < sizes[cell] for cell, number in numbers])


def _parts_text(deed):
    parts = [f"needs {cell} {digits_of(value)}" for cell, value in deed.needs]
    for cell, how, number in deed.sets:
        parts.append(f"{cell} back" if how == "back" else f"{cell} {how} {digits_of(number)}")
    parts.extend([f"tells {cell}" for cell in deed.tells])
    return ", ".join(parts) if parts else "nothing"


def _read_deed(text):
    """Returns the arguments of the deed with a text, or None if it is the text of none."""
    if not isinstance(text, str):
        return None
    head, _, tail = text.partition(": ")
    words = head.split(" ")
    if len(words) != 2 or words[0] != "deed" or not is_name(words[1]):
        return None
    needs, sets, tells = [], [], []
    parts = [] if tail == "nothing" else tail.split(", ")
    for part in parts:
        if not _take_part(part.split(" "), needs, sets, tells):
            return None
    if not (_are_needs(needs) and _are_sets(sets) and _are_tells(tells)):
        return None
    return (words[1], needs, sets, tells)


def _take_part(words, needs, sets, tells):
    """Puts what a part of a text tells where it belongs; tells whether it has a form."""
    if len(words) == 2 and words[0] == "tells":
        tells.append(words[1])
    elif len(words) == 2 and words[1] == "back":
        sets.append((words[0], "back", 0))
    elif len(words) != 3 or not is_number_text(words[2]):
        return False
    elif words[0] == "needs":
        needs.append((words[1], int(words[2])))
    elif words[1] in ("to", "by"):
        sets.append((words[0], words[1], int(words[2])))
    else:
        return False
    return True
