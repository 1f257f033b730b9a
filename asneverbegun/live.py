"""Live stages: a work goes on event by event, and what was done there can be taken back."""

from asneverbegun.errors import InvalidScene, Refused
from asneverbegun.events import event_text, read_events
from asneverbegun.stage import play
from asneverbegun.works import Work
from asneverbegun.worlds import is_scene


class Live:
    """A work on a stage. It is played anew from its beginning for each change, so that any change can be taken back."""

    def __init__(self, system, start, edition=0):
        if not is_scene(system.world, start) or start not in system.starts:
            raise InvalidScene()
        self._system = system
        self._start = start
        self._edition = edition
        self._sizes = ()
        self._events = ()
        self._played = play(system, start, edition, ())

    def __len__(self):
        return len(self._sizes)

    @property
    def system(self):
        """The system of the work."""
        return self._system

    @property
    def events(self):
        """All events so far."""
        return self._events

    @property
    def played(self):
        """What there is at the end of all events so far."""
        return self._played

    def do(self, event):
        """Does an event; returns the lot of the harms that it meets."""
        self._take((event,))
        return self._harms_at(len(self._events) - 1)

    def several(self, events):
        """Does all events of a sequence, or none; returns the tuple of the lots of harms that they meet."""
        read_events(events)
        ahead = len(self._events)
        try:
            self._take(tuple(events))
        except Refused as refused:
            raise Refused(refused.at - ahead)
        return tuple([self._harms_at(at) for at in range(ahead, len(self._events))])

    def can(self):
        """Returns the lot of all events that are possible now."""
        work = Work(self._system, self._start, self._edition)
        for kind, what in read_events(self._events):
            work.do(kind, what)
        return tuple(sorted([event_text(kind, what) for kind, what in work.choices()]))

    def undo(self):
        """Takes back the last change; returns whether there was one."""
        if len(self._sizes) == 0:
            return False
        self._events = self._events[:len(self._events) - self._sizes[-1]]
        self._sizes = self._sizes[:-1]
        self._played = play(self._system, self._start, self._edition, self._events)
        return True

    def within(self, work):
        """Returns what a work returns that is called with this stage; afterwards all is as it was before."""
        sizes, events, there = self._sizes, self._events, self._played
        try:
            return work(self)
        finally:
            self._sizes, self._events, self._played = sizes, events, there

    def _take(self, events):
        """Does these events as one change, if all are possible."""
        there = play(self._system, self._start, self._edition, self._events + events)
        self._sizes = (*self._sizes, len(events))
        self._events = self._events + events
        self._played = there

    def _harms_at(self, number):
        """Returns the lot of the harms that the event with this number met."""
        return tuple([harm for at, harm in self._played.met if at == number])
