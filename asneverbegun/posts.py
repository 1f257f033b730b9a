"""The posts of papers of calm: their form, and how they go with the states of a walker.

A post is a tuple (scene, edition, stands, is_open, held, mark, memory, is_torn, late).
"""

from asneverbegun.asks import ask_of, deed_of
from asneverbegun.basics import is_integer, is_lot_of, is_number, is_tuple
from asneverbegun.reading import next_thing
from asneverbegun.standforms import is_ok_answer, is_stand_form
from asneverbegun.worlds import is_scene

PHASES = ("here", "changed", "deed", "other")


class PostForm:
    """Tells which values have the form of a post of a system."""

    def __init__(self, system):
        self.of_system = system
        self.sizes = dict(system.world.cells)
        forms = [form for plan in system.editions for form in plan.forms if form[0] == "do"]
        opposites = ["undo " + form[2] for form in forms if form[2] is not None]
        self.words = [form[1] for form in forms] + opposites

    def fits(self, value):
        """Tells whether any value has the form of a post."""
        if not is_tuple(value, 9):
            return False
        scene, edition, stands, is_open, held, mark, memory, is_torn, late = value
        if not is_scene(self.of_system.world, scene) or not isinstance(is_open, bool) or not isinstance(is_torn, bool):
            return False
        if not is_integer(edition) or not self._are_stands(stands, edition):
            return False
        thing, is_opening = self._next(stands[edition], edition)
        if is_open and not is_opening:
            return False
        if held is not None and (not self._is_held(held, edition, thing) or is_opening and not is_open):
            return False
        return (mark is None or self._is_pair(mark)) and self._is_memory(memory) and self._is_late(late)

    def _are_stands(self, value, edition):
        if not 0 <= edition < len(self.of_system.editions) or not is_tuple(value, len(self.of_system.editions)):
            return False
        for at, stand in enumerate(value):
            if stand is None and at == edition or stand is not None and at < edition:
                return False
            if stand is not None and (not is_stand_form(self.of_system, at, stand) or stand[2]):
                return False
        return True

    def _next(self, stand, edition):
        """Returns what is next at a stand, and whether it is to write an open entry."""
        forms = self.of_system.editions[edition].forms
        thing = next_thing(forms, stand)
        return (thing, thing[0] == "ask" and "ahead" in forms[thing[2]][3])

    def _is_held(self, value, edition, thing):
        if thing[0] != "ask" or not self._is_pair(value):
            return False
        return value[0] == ask_of(self.of_system.world, self.of_system.editions[edition].forms, thing)

    def _is_pair(self, value):
        """Tells whether any value is a pair of an ask and an answer."""
        if not is_tuple(value, 2) or not self._is_ask(value[0]):
            return False
        return value[1] == "no" or is_ok_answer(self.of_system.world, deed_of(value[0]), value[1])

    def _is_ask(self, value):
        if not is_tuple(value, 2) or value[0] not in self.words:
            return False
        word, old = value
        if not isinstance(old, tuple) or not all([self._is_told(pair) for pair in old]):
            return False
        cells = [cell for cell, _ in old]
        return cells == sorted(set(cells)) and (old == () or word.startswith("undo "))

    def _is_told(self, value):
        if not is_tuple(value, 2) or not isinstance(value[0], str) or not is_number(value[1]):
            return False
        return value[0] in self.sizes and value[1] < self.sizes[value[0]]

    def _is_memory(self, value):
        if not isinstance(value, tuple) or not all([self._is_pair(pair) for pair in value]):
            return False
        asks = [ask for ask, _ in value]
        return asks == sorted(set(asks))

    def _is_late(self, value):
        if value is None:
            return True
        if not is_tuple(value, 3) or not self._is_ask(value[0]) or not is_lot_of(value[1], ("ahead", "key")):
            return False
        return isinstance(value[2], str) and value[2] in PHASES


def post_of(chart, state):
    """Returns the post that a state of a walker tells."""
    spot, (node, edition, is_open, held), (mark, memory, torn), late, _ = state
    asks = chart.asks.rows
    if held is not None:
        held = (asks[chart.asking(chart.thing(node, edition)[1])], held)
    if mark is not None:
        mark = (asks[chart.asking(mark[0])], mark[1])
    if late is not None:
        late = (asks[chart.asking(late[0])], chart.askers.rows[late[0]][3], late[1])
    pairs = tuple(sorted([(asks[ask], answer) for ask, answer in memory]))
    return (chart.spots[spot], edition, chart.node_stands(node), is_open, held, mark, pairs, torn != "", late)


def state_of(chart, post):
    """Returns a state of a walker that tells a post; who set the mark, and who is late, has no line there."""
    scene, edition, stands, is_open, held, mark, memory, is_torn, late = post
    if held is not None:
        held = held[1]
    if mark is not None:
        mark = (_nobody(chart, mark[0], ()), mark[1])
    if late is not None:
        late = (_nobody(chart, late[0], late[1]), late[2], None, 0)
    pairs = tuple(sorted([(chart.ask_number(ask), answer) for ask, answer in memory]))
    host = (chart.node_number(stands, edition), edition, is_open, held)
    trace = (mark, pairs, "lost" if is_torn else "")
    return (chart.spot_of[scene], host, trace, late, (None, False, 0, ()))


def _nobody(chart, ask, gear):
    return chart.askers.number((-1, -1, chart.ask_number(ask), gear))
