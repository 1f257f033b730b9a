"""What is seen of a history from outside: the scenes one after the other, and the log."""

from asneverbegun.errors import Refused
from asneverbegun.events import read_events
from asneverbegun.works import Work


def views(system, start, edition, events):
    """Returns the pairs (row of scenes, log) that are seen at the beginning and behind each event."""
    work = Work(system, start, edition)
    row = (start,)
    found = [(row, ())]
    for at, (kind, what) in enumerate(read_events(events)):
        if not work.can(kind, what):
            raise Refused(at)
        work.do(kind, what)
        if work.scene != row[-1]:
            row = (*row, work.scene)
        found.append((row, tuple(work.log)))
    return found
