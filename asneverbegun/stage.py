"""The stage: histories are played event by event."""

from asneverbegun.errors import Refused
from asneverbegun.events import read_events
from asneverbegun.works import Work


class Played:
    """What there is at the end of a history, and which harms were met by which events."""

    def __init__(self, work, met):
        line = None if work.stand is None else work.stand[0]
        self.scene = work.scene
        self.shade = work.shade
        self.log = tuple(work.log)
        self.cuts = work.cuts
        self.host = (work.edition, line, work.held)
        self.pending = tuple([(deed.ask[0], deed.place[1], deed.is_asked) for deed in work.pending])
        self.met = tuple(met)


def play(system, start, edition, events):
    """Plays a history: returns what there is at its end."""
    return played_on(Work(system, start, edition), events)


def played_on(work, events):
    """Does all events of any value on a work: returns what there is at the end."""
    rows = read_events(events)
    met = []
    for at, (kind, what) in enumerate(rows):
        if not work.can(kind, what):
            raise Refused(at)
        met.extend([(at, harm) for harm in work.do(kind, what)])
    return Played(work, met)
