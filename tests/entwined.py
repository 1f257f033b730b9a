"""A second stage for companies, on top of the second stage for one work (naive), and companies that are made by a seed."""

import random

from asneverbegun.companies import Company
from asneverbegun.errors import WorkError
from asneverbegun.plans import stand
from asneverbegun.systems import System
from asneverbegun.worlds import World
from naive import Naive
from samples import back_plan, random_deed, random_plan, ring_plan

THREE = {"stuck", "left", "noticed"}


class Noting(Naive):
    """Notes what is really done."""

    def __init__(self, system):
        super().__init__(system)
        self.noted = []

    def doing(self, scene, name, old):
        self.noted.append((name, old))
        return super().doing(scene, name, old)

    def see(self, state, name, old):
        answer, scene = self.doing(state.scene, name, old)
        other, shade = self.doing(state.shade, name, old)
        return state._replace(scene=scene, shade=shade, noticed=state.noticed or answer != other)


class Entwined:
    def __init__(self, company):
        self.stages = [Noting(member) for member in company.members]

    def begin(self, start):
        return tuple(stage.begin(start, 0) for stage in self.stages)

    def can(self, states, is_plain=False):
        rows = []
        for member, (stage, state) in enumerate(zip(self.stages, states)):
            for event, _ in stage.can(state):
                if not is_plain or event.split()[0] in ("next", "write", "street"):
                    rows.append((member, event))
        return rows

    def do(self, states, member, event):
        """The states behind an event, and the harms that this member meets."""
        stage = self.stages[member]
        stage.noted = []
        behind, met = stage.do(states[member], event)
        asks = stage.noted[:1]
        rows = [behind if at == member else state for at, state in enumerate(states)]
        for at in range(len(rows)):
            if at != member:
                for name, old in asks:
                    rows[at] = self.stages[at].see(rows[at], name, old)
        return tuple(rows), met


def plainer(state):
    """Without what makes no difference in plain histories."""
    return state._replace(pending=(), memory=(), marks=(), closed=(), cuts=0)


def plain_walk(company, member, lot=None, most=900):
    """Looks through all plain woven histories, up to the harms of a member.

    Returns the harms that it meets first, all states that come about, and whether there were no more than `most`.
    """
    entwined = Entwined(company.bare())
    rows = [entwined.begin(start) for start in company.members[0].starts]
    seen, found = set(rows), set()
    for states in rows:
        if len(seen) > most:
            return found, seen, False
        for at, event in entwined.can(states, True):
            if lot is None or at in lot or event.startswith("street"):
                behind, met = entwined.do(states, at, event)
                if at == member:
                    found |= met
                behind = tuple(plainer(state) for state in behind)
                if not (at == member and met) and behind not in seen:
                    seen.add(behind)
                    rows.append(behind)
    return found, seen, True


def standing(company, member, states):
    """The standing of a quiet paper that such states tell."""
    plans = [system.editions[0] for system in company.bare().members]
    pairs = tuple((stand(plan, state.log), state.held) for plan, state in zip(plans, states))
    return (states[0].scene, states[member].shade, states[member].noticed, pairs)


def random_company(seed, members=2, gears=None, sizes=(1, 2, 3), tags=("cut", "word"), cells=None):
    """Some company; the same one for the same arguments."""
    rng = random.Random(seed)
    gears = {} if gears is None else gears
    cells = cells or rng.choice([[("a", 2)], [("a", 3)], [("a", 2), ("m", 2)]])
    deeds = [random_deed(rng, name, cells) for name in ("d", "e")]
    opposites, others = {}, []
    for deed in deeds:
        others.append(random_deed(rng, "o" + deed.name, cells, rng.random() < 0.5, deed.tells))
        opposites[deed.name] = ["o" + deed.name, rng.choice(["d", "e"])]
    world = World(cells, deeds + others)
    scenes, names = world.scenes(), [deed.name for deed in deeds]
    starts = rng.sample(scenes, rng.choice([1, 1, 2]))
    street = rng.sample(names, rng.choice([0, 0, 1]))
    systems = []
    while len(systems) < members:
        style = rng.choice(["any", "back", "back", "ring"])
        if style == "any":
            plan = random_plan(rng, rng.choice(sizes), names, opposites, gears)
        elif style == "ring":
            plan = ring_plan(rng, names, opposites, gears)
        else:
            plan = back_plan(rng, names, opposites, gears)
        try:
            systems.append(System(world, [plan], starts, street, tags))
        except WorkError:
            pass
    return Company(systems)


def random_weave(rng, company, size):
    """A start and so many rows that are possible, with falls and late deeds among them."""
    entwined = Entwined(company)
    start = rng.choice(company.members[0].starts)
    states, rows = entwined.begin(start), []
    while len(rows) < size:
        choices = entwined.can(states)
        going = [row for row in choices if row[1] in ("next", "write")]
        late = [row for row in choices if row[1].startswith("late")]
        row = rng.choice(choices + 2 * going + 2 * late)
        states, met = entwined.do(states, *row)
        rows.append(row)
        if "stale" in met:
            break
    return start, rows
