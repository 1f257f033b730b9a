"""Memories: how long the world must remember answers, and how long it may."""

from asneverbegun.ages import harmful_ages
from asneverbegun.asks import asked
from asneverbegun.basics import is_integer, is_tuple
from asneverbegun.charts import Roll
from asneverbegun.entering import is_opening, next_entry, opened
from asneverbegun.errors import NoLine
from asneverbegun.nearness import least_distance
from asneverbegun.plans import do_lines, is_do_line
from asneverbegun.reading import next_thing
from asneverbegun.runs import Runs
from asneverbegun.stage import played_on
from asneverbegun.standforms import is_ok_answer, is_stand_form
from asneverbegun.works import Work
from asneverbegun.worlds import done, is_scene, told


def recall(system, memory, start, edition, events):
    """Plays a history with a memory: a number, or None for one that forgets nothing."""
    return played_on(Work(system, start, edition, memory), events)


def late_ages(system, at, most):
    """Returns the lot of the ages up to a number at which doing once more what a line asks changes the scene."""
    _check_line(system, at)
    rows = harmful_ages(system, at)
    return tuple([age for age in range(1, most + 1) if any([harmful.is_harmful_at(age) for harmful in rows])])


def latest(system, at):
    """Returns the greatest such age, 0 if there is none; None if there is no greatest one."""
    _check_line(system, at)
    return _greatest([harmful.greatest() for harmful in harmful_ages(system, at)])


def least_memory(system):
    """Returns the least memory that is enough for a system that is sound; None if no number is."""
    return _greatest([latest(system, at) for at in keyed_lines(system)])


def nearest(system):
    """Returns the least age of a place at which its key is used again in a later log; None if this never is."""
    return least_distance(system)


def greatest_memory(system):
    """Returns the greatest memory with which keys need not tell the cut; None if each one will do."""
    age = nearest(system)
    return None if age is None else age - 1


def age_paper(system, at, memory):
    """Returns an age paper for a line and a memory, or None if there is none."""
    _check_line(system, at)
    found = Roll(_beginnings(system, at))
    here = 0
    while here < len(found.rows):
        quintuple = found.rows[here]
        if _is_harmful(system, at, memory, quintuple):
            return None
        found.take(_led_to(system, memory, quintuple))
        here += 1
    return tuple(found.rows)


def age_holds(system, at, memory, value):
    """Tells whether any value is an age paper for a line and a memory."""
    _check_line(system, at)
    if not isinstance(value, tuple) or not all([_is_quintuple(system, at, memory, row) for row in value]):
        return False
    rows = {quintuple: True for quintuple in value}
    if not all([quintuple in rows for quintuple in _beginnings(system, at)]):
        return False
    if any([_is_harmful(system, at, memory, quintuple) for quintuple in value]):
        return False
    return all([other in rows for quintuple in value for other in _led_to(system, memory, quintuple)])


def keyed_lines(system):
    """Returns the lines of the first edition that have the gear `key` and not the gear `claim`."""
    plan = system.editions[0]
    return [at for at in do_lines(plan) if "key" in plan.gear(at) and "claim" not in plan.gear(at)]


def _check_line(system, at):
    if not is_do_line(system.editions[0], at):
        raise NoLine(at)


def _greatest(ages):
    """Returns the greatest of these ages, 0 if there are none; None if there is no greatest one."""
    if any([age is None for age in ages]):
        return None
    return max([0, *ages])


def _beginnings(system, at):
    """Returns the quintuples right behind the entries for the askings of a line."""
    runs, found = Runs(system, 0), Roll()
    for state in runs.states:
        _, word, line, answer = next_thing(system.editions[0].forms, runs.stand_of(state))
        if line == at:
            behind = runs.entered(state)[3]
            found.number((runs.chart.spots[behind[0]], runs.stand_of(behind), word, answer, 1))
    return found.rows


def _is_harmful(system, at, memory, quintuple):
    """Tells whether the age is the greatest one, and asking once more changes the scene."""
    scene, _, word, answer, age = quintuple
    if age <= memory:
        return False
    old = () if answer is None else told(system.world, system.editions[0].deed(at), answer)
    return asked(system.world, scene, (word, old))[1] != scene


def _led_to(system, memory, quintuple):
    """Returns the quintuples to which one leads."""
    scene, current, word, answer, age = quintuple
    rows = [(done(system.world, scene, name)[1], current, word, answer, age) for name in system.street]
    forms = system.editions[0].forms
    if is_opening(forms, current):
        rows.append((scene, opened(current, True), word, answer, age))
        return rows
    entered = next_entry(system.world, forms, scene, opened(current, False))
    if entered is not None:
        _, there, beyond = entered
        rows.append((there, beyond, word, answer, min(age, memory) + 1))
    return rows


def _is_quintuple(system, at, memory, value):
    if not is_tuple(value, 5) or not is_scene(system.world, value[0]) or not is_stand_form(system, 0, value[1]):
        return False
    _, _, word, answer, age = value
    if not isinstance(word, str) or not is_integer(age) or not 1 <= age <= memory + 1:
        return False
    plan = system.editions[0]
    if answer is None:
        return word == plan.deed(at)
    opposite = plan.opposite(at)
    return opposite is not None and word == "undo " + opposite and is_ok_answer(system.world, plan.deed(at), answer)
