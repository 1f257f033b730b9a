"""Peels: what taking back comes to, told layer by layer, and papers that a work is never left half done."""

from asneverbegun.basics import is_tuple
from asneverbegun.charts import Roll
from asneverbegun.entering import next_entry
from asneverbegun.opposites import clean
from asneverbegun.pivots import backed
from asneverbegun.reading import first_stand
from asneverbegun.standforms import is_stand_form
from asneverbegun.worlds import done, is_scene, told


def layers(system, edition, scene, stand):
    """Returns the scenes through which taking back goes if the street is still; None if it is answered `no`."""
    forms = system.editions[edition].forms
    scenes = [scene]
    for at, opposite, answer in stand[3][::-1]:
        known = told(system.world, forms[at][1], answer)
        other, there = done(system.world, scenes[-1], opposite, known)
        if other == "no":
            return None
        scenes.append(there)
    return tuple(scenes)


def left_paper(system, edition):
    """Returns a left paper for an edition, or None if there is none."""
    found = Roll(_beginnings(system, edition))
    at = 0
    while at < len(found.rows):
        behind_it = _led_to(system, edition, found.rows[at])
        if behind_it is None:
            return None
        found.take(behind_it)
        at += 1
    return tuple(found.rows)


def left_holds(system, edition, value):
    """Tells whether any value is a left paper for an edition."""
    if not isinstance(value, tuple) or not all([_is_triple(system, edition, row) for row in value]):
        return False
    rows = {triple: True for triple in value}
    if not all([triple in rows for triple in _beginnings(system, edition)]):
        return False
    for triple in rows:
        behind_it = _led_to(system, edition, triple)
        if behind_it is None or not all([other in rows for other in behind_it]):
            return False
    return True


def hidden(system, edition):
    """Returns the lot of the backed lines that are not clean; None if there is no left paper."""
    if left_paper(system, edition) is None:
        return None
    return tuple([at for at in backed(system, edition) if not clean(system, edition, at)])


def _beginnings(system, edition):
    first = first_stand(system.editions[edition].forms)
    return [(scene, scene, first) for scene in system.starts]


def _led_to(system, edition, triple):
    """Returns the triples to which one leads; None if the next entry is `undo O no`, or `gone` at another scene."""
    scene, shade, current = triple
    rows = []
    for name in system.street:
        rows.append((done(system.world, scene, name)[1], done(system.world, shade, name)[1], current))
    found = next_entry(system.world, system.editions[edition].forms, scene, current)
    if found is None:
        return rows
    entry, there, beyond = found
    if entry.startswith("undo ") and entry.endswith(" no") or entry == "gone" and scene != shade:
        return None
    if entry == "sure" or entry.startswith("cut "):
        shade = scene
    rows.append((there, shade, beyond))
    return rows


def _is_triple(system, edition, value):
    if not is_tuple(value, 3) or not is_scene(system.world, value[0]) or not is_scene(system.world, value[1]):
        return False
    return is_stand_form(system, edition, value[2]) and not value[2][2]
