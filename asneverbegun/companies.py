"""Companies: several works of unlike plans that go on at once in one world."""

from asneverbegun.basics import is_integer, is_sequence, is_tuple
from asneverbegun.errors import InvalidCompany, InvalidEvent, Refused
from asneverbegun.events import read_event
from asneverbegun.names import deeds_of
from asneverbegun.plans import do_lines
from asneverbegun.stage import Played
from asneverbegun.systems import System
from asneverbegun.works import Work


class Company:
    """Two or three systems with the same cells, deeds, starts and street."""

    def __init__(self, members):
        if not _are_members(members):
            raise InvalidCompany("members")
        if any([member.world.cells != members[0].world.cells for member in members]):
            raise InvalidCompany("cells")
        if any([member.world.deeds != members[0].world.deeds for member in members]):
            raise InvalidCompany("deeds")
        if any([member.starts != members[0].starts for member in members]):
            raise InvalidCompany("starts")
        if any([member.street != members[0].street for member in members]):
            raise InvalidCompany("street")
        self.members = tuple(members)

    def __len__(self):
        return len(self.members)

    def __eq__(self, other):
        return isinstance(other, Company) and self.members == other.members

    def bare(self):
        """Returns the company whose members have no gear words in their lines."""
        return Company([_without_gears(member) for member in self.members])

    def keyed(self):
        """Tells whether each member has one edition, both words among its tags, and `key` in all its `do` lines."""
        return all([_is_keyed(member) for member in self.members])


def woven(company, start, rows):
    """Plays one work of each member on one stage: returns for each member what there is at the end."""
    events = _read_rows(company, rows)
    works = [Work(member, start, 0) for member in company.members]
    met = [[] for _ in works]
    for at, (number, kind, what) in enumerate(events):
        work = works[number]
        if not work.can(kind, what):
            raise Refused(at)
        size = len(work.doings)
        met[number].extend([(at, harm) for harm in work.do(kind, what)])
        asks = [(what, ())] if kind == "street" else [ask for _, ask, _, _ in work.doings[size:]]
        for other in works[:number] + works[number + 1:]:
            for ask in asks:
                other.see(ask)
    return tuple([Played(work, there) for work, there in zip(works, met)])


def front(company, member):
    """Returns a member by itself, for which the deeds and opposites of the others are a street, too."""
    system = company.members[member]
    others = company.members[:member] + company.members[member + 1:]
    names = [name for other in others for name in deeds_of(other)]
    return system.with_street(sorted(set([*system.street, *names])))


def _are_members(value):
    return is_sequence(value) and len(value) in (2, 3) and all([isinstance(member, System) for member in value])


def _without_gears(system):
    for edition, plan in enumerate(system.editions):
        system = system.with_gears(edition, [() for _ in do_lines(plan)])
    return system


def _is_keyed(system):
    if len(system.editions) != 1 or len(system.tags) != 2:
        return False
    plan = system.editions[0]
    return all(["key" in plan.gear(at) for at in do_lines(plan)])


def _read_rows(company, value):
    """Returns any value, which must be a sequence of pairs (member, event), as triples (member, kind, what)."""
    if not is_sequence(value):
        raise InvalidEvent(0)
    rows = []
    for at, row in enumerate(value):
        if not is_tuple(row, 2) or not is_integer(row[0]) or not 0 <= row[0] < len(company.members):
            raise InvalidEvent(at)
        event = read_event(row[1])
        if event is None:
            raise InvalidEvent(at)
        rows.append((row[0], event[0], event[1]))
    return rows
