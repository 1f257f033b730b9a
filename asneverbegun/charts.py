"""Numbers for scenes, asks, askers, stands and nodes of a system, so that searches handle integers alone.

An asker is a tuple (edition, line, ask, gear): who asks, and by which line. A node is a tuple with the number
of a stand for each edition, -1 where it reads nothing (or is left behind).
"""

from asneverbegun.asks import ask_of, asked
from asneverbegun.lines import following
from asneverbegun.reading import behind, cut_stand, first_stand, next_thing


class Roll:
    """Things that are numbered as they come."""

    def __init__(self, things=()):
        self.rows = []
        self.numbers = {}
        self.take(things)

    def take(self, things):
        """Gives numbers to those of these things that are new."""
        for thing in things:
            self.number(thing)

    def number(self, thing):
        """Returns the number of a thing, which may be new."""
        if thing not in self.numbers:
            self.numbers[thing] = len(self.rows)
            self.rows.append(thing)
        return self.numbers[thing]


class Chart:
    """All that is numbered for a system, and what leads from one to the other."""

    def __init__(self, system):
        self.of_system = system
        self.forms = [plan.forms for plan in system.editions]
        self.spots = system.world.scenes()
        self.spot_of = {scene: at for at, scene in enumerate(self.spots)}
        self.asks = Roll()
        self.doings = []
        self.askers = Roll()
        self.stands = Roll()
        self.things = []
        self.nodes = Roll()
        self.behind_stands = {}
        self.behind_nodes = {}
        self.narrow_nodes = {}
        self.needs_shade = {}
        self.backs = [_lines_ahead_of_back(forms) for forms in self.forms]

    def ask_number(self, ask):
        """Returns the number of an ask; `doings` has its answer and the scene behind it at each scene."""
        number = self.asks.number(ask)
        if number == len(self.doings):
            rows = [asked(self.of_system.world, scene, ask) for scene in self.spots]
            self.doings.append([(answer, self.spot_of[scene]) for answer, scene in rows])
        return number

    def stand_number(self, edition, stand):
        """Returns the number of a stand of an edition; `things` has what is done next there.

        That is a pair: `ask` with the number of the asker, `write` with the entry, or `over` with None.
        """
        number = self.stands.number((edition, stand))
        if number == len(self.things):
            forms = self.forms[edition]
            thing = next_thing(forms, stand)
            kind, text, at, _ = thing
            if kind == "ask":
                ask = self.ask_number(ask_of(self.of_system.world, forms, thing))
                self.things.append(("ask", self.askers.number((edition, at, ask, forms[at][3]))))
            else:
                self.things.append((kind, text))
        return number

    def stand_behind(self, number, entry):
        """Returns the number of the stand behind one more closed entry (not `cut K`), -1 if it is not read."""
        if number == -1:
            return -1
        key = (number, entry)
        if key not in self.behind_stands:
            edition, stand = self.stands.rows[number]
            self.behind_stands[key] = self.number_or_none(edition, behind(self.forms[edition], stand, entry))
        return self.behind_stands[key]

    def cut_number(self, edition, entry):
        """Returns the number of the stand with a log that has an entry `cut K` alone, -1 if it is not read."""
        return self.number_or_none(edition, cut_stand(self.forms[edition], entry))

    def number_or_none(self, edition, stand):
        """Returns the number of a stand of an edition, -1 for None."""
        return -1 if stand is None else self.stand_number(edition, stand)

    def first_node(self, edition):
        """Returns the node with the empty log, for a host of an edition."""
        stands = [first_stand(forms) for forms in self.forms]
        return self.node_number(stands, edition)

    def node_number(self, stands, edition):
        """Returns the node of stands (None where nothing is read), of which those of elder editions are left out."""
        numbers = [self.number_or_none(at, stand) for at, stand in enumerate(stands)]
        return self._node_of(numbers, edition)

    def _node_of(self, numbers, edition):
        return self.nodes.number(tuple([-1 if at < edition else there for at, there in enumerate(numbers)]))

    def node_stands(self, node):
        """Returns the stands of a node, None where nothing is read."""
        return tuple([None if at == -1 else self.stands.rows[at][1] for at in self.nodes.rows[node]])

    def thing(self, node, edition):
        """Returns what a host of an edition does next at a node."""
        return self.things[self.nodes.rows[node][edition]]

    def behind(self, node, edition, entry):
        """Returns the node behind a closed entry that a host of an edition writes."""
        key = (node, edition, entry)
        if key not in self.behind_nodes:
            if entry.startswith("cut "):
                numbers = [self.cut_number(at, entry) for at in range(len(self.forms))]
            else:
                numbers = [self.stand_behind(at, entry) for at in self.nodes.rows[node]]
            self.behind_nodes[key] = self._node_of(numbers, edition)
        return self.behind_nodes[key]

    def narrowed(self, node, edition):
        """Returns the node for a host of a newer edition."""
        key = (node, edition)
        if key not in self.narrow_nodes:
            self.narrow_nodes[key] = self.node_number(self.node_stands(node), edition)
        return self.narrow_nodes[key]

    def reads_open(self, node, edition, asker):
        """Tells whether an edition reads the open entry of what an asker asks at this node."""
        kind, other = self.thing(node, edition)
        return kind == "ask" and self.has_gear(other, "ahead") and self.word_of(other) == self.word_of(asker)

    def has_gear(self, asker, word):
        """Tells whether the line of an asker has a gear word."""
        return word in self.askers.rows[asker][3]

    def asking(self, asker):
        """Returns the number of what an asker asks."""
        return self.askers.rows[asker][2]

    def word_of(self, asker):
        """Returns the word of what an asker asks."""
        return self.asks.rows[self.asking(asker)][0]

    def doing(self, asker, spot):
        """Returns the answer to what an asker asks at a scene, and the scene behind it."""
        return self.doings[self.asking(asker)][spot]

    def can_change(self, asker):
        """Tells whether what an asker asks changes some scene."""
        return any([there != spot for spot, (_, there) in enumerate(self.doings[self.asking(asker)])])

    def can_be_gone(self, node, edition):
        """Tells whether `gone` can be written behind this node without a `sure` or a cut between."""
        key = (node, edition)
        if key not in self.needs_shade:
            rows = [self.stands.rows[at] for at in self.nodes.rows[node][edition:] if at != -1]
            self.needs_shade[key] = any([stand[0] in self.backs[which] for which, stand in rows])
        return self.needs_shade[key]


def _lines_ahead_of_back(forms):
    """Returns the numbers of the lines from which a `back` can be reached without a `sure` or a cut between."""
    found = {}
    for _ in forms:
        for at, form in enumerate(forms):
            is_passing = form[0] in ("do", "go") and any([there in found for there in following(forms, at)])
            if form[0] == "back" or is_passing:
                found[at] = True
    return found
