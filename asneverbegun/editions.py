"""Two editions, an elder one and a newer one: what the newer one reads, and what it does otherwise."""

from asneverbegun.alongside import Alongside
from asneverbegun.asks import is_undoing
from asneverbegun.basics import is_tuple
from asneverbegun.entering import is_opening, next_entry, opened
from asneverbegun.opposites import fault_of, pairs
from asneverbegun.reading import behind, cut_stand, first_stand, next_thing
from asneverbegun.standforms import is_stand_form
from asneverbegun.worlds import done, is_scene


def reads(system):
    """Tells whether the newer edition reads each log that comes about in plain histories of the elder one."""
    sides = Alongside(system)
    return all([sides.is_read(state) for state in sides.states])


def parting(system):
    """Returns some such log that the newer edition does not read, with as few entries as possible, or None."""
    sides = Alongside(system)
    logs = {state: () for state in sides.beginning}
    rows = list(logs)
    while rows:
        rows = _with_equal(sides, rows, logs)
        for state in rows:
            if not sides.is_read(state):
                return logs[state]
        rows = _with_more(sides, rows, logs)
    return None


def mixed(system):
    """Returns the lot of the pairs of lines at which both stand with a log, neither of them taking back."""
    sides, found = Alongside(system), {}
    for _, elder, newer, _ in sides.states:
        if newer != -1:
            line, is_back, _, _ = sides.stand_at(elder, False)
            other, is_other_back, _, _ = sides.stand_at(newer, False)
            if not is_back and not is_other_back:
                found[(line, other)] = True
    return tuple(sorted(found))


def reading_paper(system):
    """Returns a reading paper, or None if there is none."""
    sides = Alongside(system)
    if not all([sides.is_read(state) for state in sides.states]):
        return None
    rows = []
    for spot, elder, newer, is_open in sides.states:
        rows.append((sides.chart.spots[spot], sides.stand_at(elder, is_open), sides.stand_at(newer, is_open)))
    return tuple(rows)


def reading_holds(system, value):
    """Tells whether any value is a reading paper."""
    if not isinstance(value, tuple) or not all([_is_triple(system, row) for row in value]):
        return False
    rows = {triple: True for triple in value}
    first = [first_stand(plan.forms) for plan in system.editions]
    if not all([(scene, first[0], first[1]) in rows for scene in system.starts]):
        return False
    return all([other in rows for triple in rows for other in _led_to(system, triple)])


def ahead_lines(system):
    """Returns the lot of the lines of the elder edition at whose asking the newer one would do something else."""
    sides, found = Alongside(system), {}
    for spot, elder, newer, _ in sides.states:
        asker, other = sides.asker_at(elder), sides.asker_at(newer)
        if asker is not None and newer != -1 and sides.chart.doing(asker, spot)[1] != spot:
            if other is None or sides.chart.asking(other) != sides.chart.asking(asker):
                found[sides.chart.askers.rows[asker][1]] = True
    return tuple(sorted(found))


def estranged(system):
    """Returns the lot of the pairs of lines that read one deed, which the newer edition does not take back."""
    sides, found = Alongside(system), {}
    for spot, elder, newer, _ in sides.states:
        asker, other = sides.asker_at(elder), sides.asker_at(newer)
        if asker is not None and other is not None and _is_same_deed(sides.chart, asker, other):
            if sides.chart.doing(asker, spot)[0] != "no":
                found[(sides.chart.askers.rows[asker][1], sides.chart.askers.rows[other][1])] = True
    return tuple([(line, other) for line, other in sorted(found) if not _takes_back(system, line, other)])


def _with_equal(sides, rows, logs):
    """Returns these states, and those to which they lead by no further entry; their logs are noted."""
    rows = list(rows)
    at = 0
    while at < len(rows):
        here = rows[at]
        log = logs[here]
        for state in sides.passed(here):
            _note(state, log, rows, logs)
        if here[3]:
            entry, behind_it = sides.entered(here)
            _note(behind_it, (*log[:-1], entry), rows, logs)
        at += 1
    return rows


def _with_more(sides, rows, logs):
    """Returns the states to which these lead by one more entry (at first also those behind cuts)."""
    found = []
    # A new log has one entry, wherever the elder one was cut.
    for state in sides.behind_cuts:
        _note(state, (sides.behind_cuts[state],), found, logs)
    for state in rows:
        entered = sides.entered(state)
        if entered is not None:
            _note(entered[1], (*logs[state], entered[0]), found, logs)
    return found


def _note(state, log, rows, logs):
    if state not in logs:
        logs[state] = log
        rows.append(state)


def _is_same_deed(chart, asker, other):
    """Tells whether two askers ask the same deed, and no opposite."""
    return chart.asking(asker) == chart.asking(other) and not is_undoing(chart.asks.rows[chart.asking(asker)])


def _takes_back(system, line, other):
    """Tells whether a line of the newer edition takes back what comes of one of the elder edition."""
    form = system.editions[1].forms[other]
    return all([fault_of(system.world, form, triple) is None for triple in pairs(system, 0, line)])


def _is_triple(system, value):
    if not is_tuple(value, 3) or not is_scene(system.world, value[0]):
        return False
    return is_stand_form(system, 0, value[1]) and is_stand_form(system, 1, value[2])


def _led_to(system, triple):
    """Returns the triples to which one leads; a stand is None there if the newer edition does not read the log."""
    scene, elder, newer = triple
    rows = [(done(system.world, scene, name)[1], elder, newer) for name in system.street]
    forms, others = system.editions[0].forms, system.editions[1].forms
    if is_opening(forms, elder):
        entry = next_thing(forms, elder)[1] + " ?"
        return rows + [(scene, opened(elder, True), behind(others, newer, entry))]
    if elder[2]:
        elder, newer = opened(elder, False), opened(newer, False)
    found = next_entry(system.world, forms, scene, elder)
    if found is not None:
        entry, there, beyond = found
        is_new = entry.startswith("cut ")
        rows.append((there, beyond, cut_stand(others, entry) if is_new else behind(others, newer, entry)))
    return rows
