"""The standings of a company in plain woven histories, event by event, as quiet papers have them.

A standing is a tuple (scene, shade of a member, whether something was noticed, pairs of a stand and what is held). A
state tells the same by numbers (see charts).
"""

from asneverbegun.basics import is_tuple
from asneverbegun.asks import deed_of
from asneverbegun.standforms import is_ok_answer, is_stand_form
from asneverbegun.strands import Strand
from asneverbegun.weaving import gone_harms, with_thing
from asneverbegun.worlds import is_scene


class Standings:
    """Tells which standings lead to which, and where a member meets a harm."""

    def __init__(self, company, member):
        self.company = company
        self.member = member
        self.strands = [Strand(system, False) for system in company.bare().members]
        self.chart = self.strands[member].chart
        self.passing = [doings for _, doings in self.strands[member].street_rows()]

    def beginnings(self):
        """Returns the states at the beginning."""
        hosts = tuple([(strand.first, None) for strand in self.strands])
        spots = [self.chart.spot_of[start] for start in self.chart.of_system.starts]
        return [(spot, spot, False, hosts) for spot in spots]

    def led_to(self, state):
        """Returns the states to which one event leads; None if the member meets a harm by one."""
        hosts = state[3]
        out = [_passed(state, doings, hosts) for doings in self.passing]
        for at, (number, held) in enumerate(hosts):
            kind, _ = self.strands[at].thing(number)
            if held is not None:
                if at == self.member and self.strands[at].is_stuck(number, held):
                    return None
                behind = (self.strands[at].answered(number, held), None)
                out.append((*state[:3], with_thing(hosts, at, behind)))
            elif kind == "ask":
                out.append(self._asked(state, at, number))
            elif kind == "write":
                behind = self._written(state, at, number)
                if behind is None:
                    return None
                out.append(behind)
        return out

    def _asked(self, state, at, number):
        spot, shade, is_noticed, hosts = state
        doings = self.strands[at].doings_at(number)
        answer, there = doings[spot]
        hosts = with_thing(hosts, at, (number, answer))
        if at == self.member:
            return (there, shade, is_noticed, hosts)
        return _passed(state, doings, hosts)

    def _written(self, state, at, number):
        """Returns the state behind an entry that is not that of a deed; None if the member meets a harm by it."""
        spot, shade, is_noticed, hosts = state
        if at == self.member:
            if self.strands[at].thing(number)[1] == "gone" and gone_harms(spot, shade, is_noticed):
                return None
            if self.strands[at].begins_anew(number):
                shade, is_noticed = spot, False
        return (spot, shade, is_noticed, with_thing(hosts, at, (self.strands[at].written(number), None)))

    def standing_of(self, state):
        """Returns the standing that a state tells."""
        spot, shade, is_noticed, hosts = state
        pairs = [(strand.chart.stands.rows[row[0]][1], row[1]) for strand, row in zip(self.strands, hosts)]
        return (self.chart.spots[spot], self.chart.spots[shade], is_noticed, tuple(pairs))

    def state_of(self, standing):
        """Returns the state that tells a standing of the right form."""
        scene, shade, is_noticed, pairs = standing
        hosts = [(strand.chart.stand_number(0, row[0]), row[1]) for strand, row in zip(self.strands, pairs)]
        return (self.chart.spot_of[scene], self.chart.spot_of[shade], is_noticed, tuple(hosts))

    def fits(self, value):
        """Tells whether any value has the form of a standing."""
        if not is_tuple(value, 4) or not isinstance(value[2], bool) or not is_tuple(value[3], len(self.strands)):
            return False
        world = self.chart.of_system.world
        if not is_scene(world, value[0]) or not is_scene(world, value[1]):
            return False
        return all([self._is_host(at, row) for at, row in enumerate(value[3])])

    def _is_host(self, at, value):
        """Tells whether any value is a pair of a stand of a member and what it holds there."""
        if not is_tuple(value, 2) or not is_stand_form(self.company.members[at], 0, value[0]) or value[0][2]:
            return False
        return value[1] is None or self._is_answer(at, value[0], value[1])

    def _is_answer(self, at, stand, value):
        chart = self.strands[at].chart
        kind, asker = chart.things[chart.stand_number(0, stand)]
        if kind != "ask":
            return False
        name = deed_of(chart.asks.rows[chart.asking(asker)])
        return value == "no" or is_ok_answer(chart.of_system.world, name, value)


def _passed(state, doings, hosts):
    """Returns the state behind something that another one, or the street, does; the hosts are those behind it."""
    spot, shade, is_noticed, _ = state
    answer, there = doings[spot]
    other, beside = doings[shade]
    return (there, beside, is_noticed or answer != other, hosts)
