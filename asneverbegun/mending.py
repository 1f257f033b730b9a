"""Mends: which few changes of a system are enough against harms."""

from asneverbegun.errors import InvalidHarm
from asneverbegun.events import is_harm, read_events
from asneverbegun.lines import GEAR
from asneverbegun.plans import do_lines
from asneverbegun.systems import TAGS
from asneverbegun.trails import ALL_KINDS, Trails
from asneverbegun.walker import Walker
from asneverbegun.works import Work


def changes(system):
    """Returns the lot of all changes that can be made."""
    rows = [("street", name) for name in system.street]
    rows.extend([("key", word) for word in TAGS if word not in system.tags])
    for edition, plan in enumerate(system.editions):
        for at in do_lines(plan):
            rows.extend([("gear", edition, at, word) for word in GEAR if word not in plan.gear(at)])
    return tuple(sorted(rows))


def changed(system, lot):
    """Returns the system with all changes of a lot."""
    for change in lot:
        if change[0] == "street":
            system = system.with_street([name for name in system.street if name != change[1]])
        elif change[0] == "key":
            system = system.with_tags(sorted(set([*system.tags, change[1]])))
        else:
            system = _with_word(system, change)
    return system


def hits(system, harm, story, lot):
    """Tells whether a story of a harm goes otherwise in the changed system."""
    start, edition, events = story
    met = _first_met(changed(system, lot), start, edition, events)
    return met is None or met[0] != len(events) - 1 or harm not in met[1]


def mends(system, wanted):
    """Returns the least lots of at most two changes with which none of the wanted harms happens."""
    for harm in wanted:
        if not is_harm(harm):
            raise InvalidHarm()
    mender = Mender(system, wanted)
    if mender.is_enough(()):
        return ((),)
    single, rest = [], []
    for change in changes(system):
        if mender.is_enough((change,)):
            single.append((change,))
        else:
            rest.append(change)
    double = []
    for at, change in enumerate(rest):
        for other in rest[at + 1:]:
            if mender.is_enough((change, other)):
                double.append((change, other))
    return tuple(single + double)


class Mender:
    """Tells which lots of changes are enough; it keeps the stories that it finds, which they must hit ([31])."""

    def __init__(self, system, wanted):
        self.of_system = system
        self.wanted = tuple(wanted)
        self.stories = []

    def is_enough(self, lot):
        """Tells whether none of the wanted harms happens with these changes."""
        system = changed(self.of_system, lot)
        if any([self._is_met(system, row) for row in self.stories]):
            return False
        trails = Trails(Walker(system, True), ALL_KINDS, self.wanted)
        for harm in self.wanted:
            if harm in trails.found:
                self.stories.append(trails.story(harm))
                return False
        return True

    def _is_met(self, system, row):
        """Tells whether a wanted harm is met first, if a story is played."""
        met = _first_met(system, row[0], row[1], row[2])
        return met is not None and any([harm in self.wanted for harm in met[1]])


def _with_word(system, change):
    _, edition, at, word = change
    plan = system.editions[edition]
    plan = plan.with_gear(at, [*plan.gear(at), word])
    return system.with_editions([*system.editions[:edition], plan, *system.editions[edition + 1:]])


def _first_met(system, start, edition, events):
    """Returns the first event that meets harms as (number, harms); None if there is none ahead of a refused one."""
    work = Work(system, start, edition)
    for at, (kind, what) in enumerate(read_events(events)):
        if not work.can(kind, what):
            return None
        harms = work.do(kind, what)
        if harms:
            return (at, harms)
    return None
