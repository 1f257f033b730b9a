"""Plain woven histories of a company, as far as the harms of one member are concerned.

A deed is asked and written at once here, and others write at once what comes ahead of their next asking: it makes no
difference to anybody else when this is written. A state is a tuple (spot, shade, is_noticed, hosts), with scenes and
stands by their numbers (see charts). The shade is that of the member, -1 where it makes no difference. The hosts have
the stand of the member, and for the others those at which they ask next, -1 where they do nothing any more.
"""

from asneverbegun.names import deeds_of
from asneverbegun.strands import Strand

PLAIN_HARMS = ("left", "noticed", "stuck")


class Weaving:
    """A search for harms of a member in histories in which only those in a lot (and the street) do anything.

    `found` has, for each harm that is met, the first state and rows by which it is; `ways` has the state and the rows
    by which each state is come to first (for those at the beginning, None and the start with rows).
    """

    def __init__(self, company, member, lot):
        self.strands = [Strand(system, True) for system in company.bare().members]
        self.member = member
        self.others = [at for at in lot if at != member]
        self.own = self.strands[member]
        self.passing = self.own.street_rows()
        self.needs_shade = self.own.chart.backs[0]
        self.goals = self.own.lines_ahead_of_back()
        self.found = {}
        self.ways = {}

    def look(self, wanted, many):
        """Looks until so many of the wanted harms are found, or all is seen; returns the lot of those found."""
        wanted = [harm for harm in wanted if self._can_be_met(harm)]
        many = min(many, len(wanted))
        queue = []
        for start in self.own.chart.of_system.starts:
            state, rows = self._beginning(self.own.chart.spot_of[start])
            self._take(state, (None, (start, rows)), queue)
        at = 0
        while at < len(queue) and len(self._met(wanted)) < many:
            state = queue[at]
            at += 1
            for rows, harms, behind in self._steps(state):
                for harm in harms:
                    self.found.setdefault(harm, (state, rows))
                self._take(behind, (state, rows), queue)
        return self._met(wanted)

    def _can_be_met(self, harm):
        """Tells whether there is what a harm needs, by a look at the deeds alone."""
        if harm == "stuck":
            return self.own.can_be_stuck()
        if harm == "noticed":
            names = [name for at in self.others for name in deeds_of(self.strands[at].chart.of_system)]
            return self.own.has_answers([*self.own.chart.of_system.street, *names])
        return harm == "left"

    def history(self, harm):
        """Returns the history by which a harm was found: (start, rows)."""
        state, rows = self.found[harm]
        parts = [rows]
        while self.ways[state][0] is not None:
            state, rows = self.ways[state]
            parts.append(rows)
        start, rows = self.ways[state][1]
        parts.append(rows)
        return (start, tuple([row for part in parts[::-1] for row in part]))

    def _met(self, wanted):
        return tuple(sorted([harm for harm in wanted if harm in self.found]))

    def _take(self, state, way, queue):
        """Takes in a state, unless it is None, or was there, or the member can take nothing back any more."""
        if state is not None and state not in self.ways and self.own.line_at(state[3][self.member]) in self.goals:
            self.ways[state] = way
            queue.append(state)

    def _beginning(self, spot):
        hosts, rows = [-1 for _ in self.strands], ()
        for at in self.others:
            hosts[at], many = self.strands[at].next_asking(self.strands[at].first)
            rows = rows + _nexts(at, many)
        return (self._with_own((spot, spot, False, tuple(hosts)), self.own.first), rows)

    def _steps(self, state):
        """Returns the steps from a state: triples (rows, harms, state behind them or None)."""
        out = [self._own_step(state)]
        for event, doings in self.passing:
            out.append((((self.member, event),), (), _passed(state, doings)))
        for at in self.others:
            if state[3][at] != -1:
                out.append(self._step_of(state, at))
        return out

    def _own_step(self, state):
        spot, shade, is_noticed, hosts = state
        number = hosts[self.member]
        kind, entry = self.own.thing(number)
        rows = ((self.member, "next"),)
        if kind == "ask":
            answer, there = self.own.doings_at(number)[spot]
            rows = ((self.member, "next"), (self.member, "write"))
            if self.own.is_stuck(number, answer):
                return (rows, ("stuck",), None)
            behind = (there, shade, is_noticed, hosts)
            return (rows, (), self._with_own(behind, self.own.answered(number, answer)))
        if entry == "gone":
            return (rows, gone_harms(spot, shade, is_noticed), None)
        if self.own.begins_anew(number):
            shade, is_noticed = spot, False
        return (rows, (), self._with_own((spot, shade, is_noticed, hosts), self.own.written(number)))

    def _with_own(self, state, number):
        """Returns the state in which the member stands there."""
        spot, shade, is_noticed, hosts = state
        hosts = with_thing(hosts, self.member, number)
        if self.own.line_at(number) in self.needs_shade:
            return (spot, shade, is_noticed, hosts)
        return (spot, -1, False, hosts)

    def _step_of(self, state, at):
        strand, number = self.strands[at], state[3][at]
        doings = strand.doings_at(number)
        behind, many = strand.next_asking(strand.answered(number, doings[state[0]][0]))
        rows = ((at, "next"), (at, "write"), *_nexts(at, many))
        spot, shade, is_noticed, hosts = _passed(state, doings)
        return (rows, (), (spot, shade, is_noticed, with_thing(hosts, at, behind)))


def gone_harms(spot, shade, is_noticed):
    """Returns the lot of the harms that are met by writing `gone`."""
    return tuple((["left"] if spot != shade else []) + (["noticed"] if is_noticed else []))


def with_thing(hosts, at, thing):
    """Returns a tuple that has another thing at a place."""
    return (*hosts[:at], thing, *hosts[at + 1:])


def _passed(state, doings):
    """Returns the state behind something that another one, or the street, does."""
    spot, shade, is_noticed, hosts = state
    answer, there = doings[spot]
    if shade == -1:
        return (there, shade, is_noticed, hosts)
    other, beside = doings[shade]
    return (there, beside, is_noticed or answer != other, hosts)


def _nexts(at, many):
    """Returns so many rows `next` of a member."""
    return tuple([(at, "next") for _ in range(many)])
