"""Opposites: whether what a line did can be taken back, whatever the street does meanwhile."""

from asneverbegun.basics import is_tuple
from asneverbegun.charts import Roll
from asneverbegun.errors import NoLine
from asneverbegun.plans import is_do_line
from asneverbegun.runs import Runs
from asneverbegun.standforms import is_ok_answer
from asneverbegun.worlds import done, is_scene, told


def pairs(system, edition, at):
    """Returns the lot of the triples (scene with a line's deed, scene without it, answer of the deed)."""
    _check_line(system, edition, at)
    found = Roll(_first_triples(system, edition, at))
    here = 0
    while here < len(found.rows):
        found.take(_passed(system, found.rows[here]))
        here += 1
    return tuple(sorted(found.rows))


def clean(system, edition, at):
    """Tells whether the opposite of a line leads back at each triple (without one: whether nothing differs)."""
    rows = pairs(system, edition, at)
    return _are_right(system, edition, at, rows)


def faults(system, edition, at):
    """Returns the lot of the words of what can go wrong by taking back a line."""
    found = {}
    forms = system.editions[edition].forms
    for triple in pairs(system, edition, at):
        fault = fault_of(system.world, forms[at], triple)
        if fault is not None:
            found[fault] = True
        if _is_noticed(system, triple):
            found["noticed"] = True
    return tuple(sorted(found))


def bars(system, edition, at):
    """Returns the lot of the least lots of names in the street without which a line is clean."""
    enough = []
    # The parts of a lot of names have lesser sums, so they come ahead of it.
    for names in range(1 << len(system.street)):
        is_greater = any([names & lot == lot for lot in enough])
        if not is_greater and clean(system.with_street(_names_in(system, names, 0)), edition, at):
            enough.append(names)
    return tuple(sorted([_names_in(system, names, 1) for names in enough]))


def clean_paper(system, edition, at):
    """Returns a clean paper for a line, or None if there is none."""
    rows = pairs(system, edition, at)
    return rows if _are_right(system, edition, at, rows) else None


def clean_holds(system, edition, at, value):
    """Tells whether any value is a clean paper for a line."""
    _check_line(system, edition, at)
    deed = system.editions[edition].deed(at)
    if not isinstance(value, tuple) or not all([_is_triple(system.world, deed, row) for row in value]):
        return False
    rows = {triple: True for triple in value}
    if not all([triple in rows for triple in _first_triples(system, edition, at)]):
        return False
    is_whole = all([other in rows for triple in value for other in _passed(system, triple)])
    return is_whole and _are_right(system, edition, at, value)


def fault_of(world, form, triple):
    """Returns the fault of taking back at a triple by a line with this form: "stuck", "left", or None."""
    there, without, answer = triple
    _, deed, opposite, _, _ = form
    if opposite is None:
        return None if there == without else "left"
    other, scene = done(world, there, opposite, told(world, deed, answer))
    if other == "no":
        return "stuck"
    return None if scene == without else "left"


def _are_right(system, edition, at, rows):
    """Tells whether taking back has no fault at any of these triples."""
    form = system.editions[edition].forms[at]
    return all([fault_of(system.world, form, triple) is None for triple in rows])


def _check_line(system, edition, at):
    if not is_do_line(system.editions[edition], at):
        raise NoLine(at)


def _first_triples(system, edition, at):
    """Returns the triples right behind the deed of a line, in plain histories."""
    runs, found = Runs(system, edition), {}
    spots = runs.chart.spots
    for state in runs.states:
        entered = runs.entered(state)
        if entered is not None and runs.line_of_deed(entered[1]) == at and entered[2] != "no":
            _, _, answer, behind = entered
            found[(spots[behind[0]], spots[state[0]], answer)] = True
    return list(found)


def _passed(system, triple):
    """Returns the triples to which the deeds of the street lead."""
    there, without, answer = triple
    rows = []
    for name in system.street:
        rows.append((done(system.world, there, name)[1], done(system.world, without, name)[1], answer))
    return rows


def _is_noticed(system, triple):
    """Tells whether some deed of the street has two answers at both scenes."""
    there, without, _ = triple
    return any([done(system.world, there, name)[0] != done(system.world, without, name)[0] for name in system.street])


def _names_in(system, names, wanted):
    """Returns the lot of the names of the street that are in a sum (wanted 1) or not (wanted 0)."""
    return tuple([name for at, name in enumerate(system.street) if names >> at & 1 == wanted])


def _is_triple(world, deed, value):
    if not is_tuple(value, 3):
        return False
    return is_scene(world, value[0]) and is_scene(world, value[1]) and is_ok_answer(world, deed, value[2])
