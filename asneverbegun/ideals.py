"""Ideals: what one host without falls would have done, so that it shows the same."""

from asneverbegun.asks import ask_of
from asneverbegun.errors import Refused
from asneverbegun.events import event_text, read_events
from asneverbegun.reading import next_thing, stand_of
from asneverbegun.views import views
from asneverbegun.works import Work


def ideal(system, start, edition, events):
    """Returns a history without late deeds and lost answers that shows the same; None if some harm is met."""
    rows = read_events(events)
    account = Account(Work(system, start, edition))
    for at, (kind, what) in enumerate(rows):
        account.take(at, kind, what)
    if account.is_harmed:
        return None
    account.close()
    follower = Follower(Work(system, start, edition), account.work.log)
    for at, (kind, what) in enumerate(rows):
        if kind == "street":
            follower.do("street", what)
        if at in account.asked_at:
            follower.ask_by(account.asked_at[at])
        if at in account.written_at:
            follower.write(account.written_at[at])
    follower.close()
    return tuple(follower.told_events)


def seen_as_one(system, start, edition, events, others):
    """Tells whether two histories show the same."""
    first = views(system, start, edition, events)[-1]
    return first == views(system, start, edition, others)[-1]


class Account:
    """When the doings of a history came about that count, and when its entries were written.

    `asked_at` has for the numbers of events the edition that is to ask there, or, if no entry was written for it, the
    ask; `written_at` the edition that wrote an entry. For a place that doing counts which changed the scene, or, if
    none did, one whose answer was written.
    """

    def __init__(self, work):
        self.work = work
        self.is_harmed = False
        self.changing = {}
        self.answering = {}
        self.asked_at = {}
        self.written_at = {}

    def take(self, at, kind, what):
        """Takes in the next event."""
        work = self.work
        if not work.can(kind, what):
            raise Refused(at)
        place, ask, held, size = work.next_place(), work.present_ask(), work.held, len(work.doings)
        self.is_harmed = work.do(kind, what) != () or self.is_harmed
        if len(work.doings) > size:
            self._take_doing(at, work.doings[-1])
        if place in work.closed:
            self.written_at[at] = work.edition
            if kind == "write":
                moment = self.changing.get(place, self.answering.get((place, ask, held)))
                self.asked_at[moment] = (work.edition, None)

    def _take_doing(self, at, doing):
        place, ask, answer, is_change = doing
        self.answering.setdefault((place, ask, answer), at)
        if is_change:
            self.changing.setdefault(place, at)

    def close(self):
        """Takes in that the history ends: a doing can have changed the scene for a place that has no entry."""
        place = self.work.next_place()
        if place in self.changing:
            self.asked_at[self.changing[place]] = (None, self.work.marks[place][0])


class Follower:
    """One host (that changes its edition between entries), and what it does; log is the one that it is to leave."""

    def __init__(self, work, log):
        self.work = work
        self.log = log
        self.told_events = []

    def do(self, kind, what):
        """Does an event."""
        self.work.do(kind, what)
        self.told_events.append(event_text(kind, what))

    def ask_by(self, row):
        """Asks by an edition, or, for (None, ask), by one that asks just this; an open entry comes first."""
        edition, ask = row
        if edition is None:
            edition = self._edition_for(ask, self._is_left_open())
        self._take_over(edition)
        self.do("next", None)
        if self.work.held is None:
            self.do("next", None)

    def write(self, edition):
        """Writes the next entry."""
        self._take_over(edition)
        self.do("next" if self.work.held is None else "write", None)

    def close(self):
        """Writes the open entry with which the log is to end, if it is not there."""
        if self._is_left_open() and not self.work.is_open():
            self._take_over(self._edition_for(None, True))
            self.do("next", None)

    def _is_left_open(self):
        return len(self.log) > 0 and self.log[-1].endswith(" ?")

    def _take_over(self, edition):
        if edition != self.work.edition:
            self.do("over", edition)

    def _edition_for(self, ask, is_opening):
        """Returns the first edition that asks this next (None: what the log is to be left open for)."""
        system = self.work.of_system
        for edition in range(self.work.edition, len(system.editions)):
            forms = system.editions[edition].forms
            current = stand_of(forms, self.work.log)
            thing = ("over", None, None, None) if current is None else next_thing(forms, current)
            if thing[0] == "ask" and ("ahead" in forms[thing[2]][3]) == is_opening:
                is_left = ask is None and thing[1] + " ?" == self.log[-1]
                if is_left or ask == ask_of(system.world, forms, thing):
                    return edition
        return self.work.edition
