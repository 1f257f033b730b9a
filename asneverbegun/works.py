"""One work on the stage: it changes event by event, by the plain meaning of all rules."""

from asneverbegun.asks import ask_of, asked, is_undoing
from asneverbegun.reading import behind, cut_stand, first_stand, next_thing, stand_of


class Pending:
    """A deed that an elder host still has pending (or had: then it is asked)."""

    def __init__(self, ask, words, place):
        self.ask = ask
        self.words = words
        self.place = place
        self.is_asked = False


class Work:
    """A work with its world: scene, shade, log, hosts, and what is remembered and noted.

    A place is a pair (number of cuts, number in the log). For each place `marks` has the pair (ask, answer)
    of the doing that changed the scene first, and `closed` whether its closed entry is that of a deed. `doings` has
    a tuple (place, ask, answer, whether the scene was changed) for each doing, in order. `limit` is the memory: the
    greatest age of a place for which something is remembered, or None.
    """

    def __init__(self, system, start, edition, limit=None):
        self.of_system = system
        self.limit = limit
        self.scene = start
        self.shade = start
        self.is_noticed = False
        self.log = []
        self.cuts = 0
        self.edition = edition
        self.stand = first_stand(system.editions[edition].forms)
        self.held = None
        self.pending = []
        self.memory = {}
        self.marks = {}
        self.closed = {}
        self.doings = []
        self.entries_ahead = [0]

    def can(self, kind, what):
        """Tells whether an event is possible."""
        if kind == "street":
            return what in self.of_system.street
        if kind == "over":
            return self.edition <= what < len(self.of_system.editions)
        if kind == "late":
            return what < len(self.pending) and not self.pending[what].is_asked
        if kind == "write":
            return self.held is not None
        return self.held is None and self.thing()[0] != "over"

    def choices(self):
        """Returns the pairs (kind, what) of all events that are possible."""
        rows = [("next", None), ("write", None)]
        rows.extend([("over", edition) for edition in range(len(self.of_system.editions))])
        rows.extend([("late", number) for number in range(len(self.pending))])
        rows.extend([("street", name) for name in self.of_system.street])
        return [row for row in rows if self.can(row[0], row[1])]

    def do(self, kind, what):
        """Does an event that is possible; returns the lot of the harms that it meets."""
        found = []
        if kind == "street":
            self.see((what, ()))
        elif kind == "over":
            self._take_over(what, found)
        elif kind == "late":
            self._ask_late(self.pending[what], found)
        elif kind == "write":
            self._write_answer(found)
        else:
            self._go_on(found)
        return tuple(sorted(set(found)))

    def thing(self):
        """Returns the thing that the present host does next (see reading); nothing if it is astray."""
        if self.stand is None:
            return ("over", None, None, None)
        return next_thing(self._forms(), self.stand)

    def is_open(self):
        """Tells whether the last entry of the log is open."""
        return len(self.log) > 0 and self.log[-1].endswith(" ?")

    def next_place(self):
        """Returns the next place of the log (that of the open entry, if there is one)."""
        return (self.cuts, len(self.log) - 1 if self.is_open() else len(self.log))

    def age(self, place):
        """Returns the number of the closed entries at a place and behind it."""
        cuts, number = place
        size = len(self.log) - 1 if self.is_open() else len(self.log)
        return max(0, self.entries_ahead[-1] + size - self.entries_ahead[cuts] - number)

    def _forms(self):
        return self.of_system.editions[self.edition].forms

    def present_ask(self):
        """Returns what the present host asks next, or None."""
        thing = self.thing()
        return ask_of(self.of_system.world, self._forms(), thing) if thing[0] == "ask" else None

    def _is_opening(self, thing):
        """Tells whether the present host writes an open entry before it asks."""
        return thing[0] == "ask" and "ahead" in self._forms()[thing[2]][3] and not self.is_open()

    def see(self, ask):
        """Takes in what somebody else asks: it is done at the scene, and at the shade, too."""
        answer, self.scene = asked(self.of_system.world, self.scene, ask)
        other, self.shade = asked(self.of_system.world, self.shade, ask)
        self.is_noticed = self.is_noticed or answer != other

    def _take_over(self, edition, found):
        thing = self.thing()
        if self.held is None and thing[0] == "ask" and not self._is_opening(thing):
            self.pending.append(Pending(self.present_ask(), self._forms()[thing[2]][3], self.next_place()))
        self.held = None
        self.edition = edition
        self.stand = stand_of(self._forms(), self.log)
        if self.stand is None:
            found.append("astray")
        elif self.stand[2]:
            self.stand = (*self.stand[:2], False, self.stand[3])

    def _ask_late(self, deed, found):
        deed.is_asked = True
        if "claim" not in deed.words:
            self._answer(deed.ask, deed.words, deed.place, False, found)

    def _go_on(self, found):
        thing = self.thing()
        if self._is_opening(thing):
            self._write_open(found)
        elif thing[0] == "ask":
            self.held = self._answer(self.present_ask(), self._forms()[thing[2]][3], self.next_place(), True, found)
        else:
            self._write_plain(thing[1], found)

    def _answer(self, ask, gear, place, is_present, found):
        """Returns the answer of the world to what is asked for a place, by a line with this gear."""
        key = self._key(ask, place)
        if "key" in gear and self._is_remembered(key):
            cuts, known, answer = self.memory[key]
            if is_present and (cuts, known) != (place[0], ask):
                found.append("stale")
            return answer
        answer, scene = asked(self.of_system.world, self.scene, ask)
        self.doings.append((place, ask, answer, scene != self.scene))
        if scene != self.scene:
            self._note_change(ask, answer, place, found)
        self.scene = scene
        if "key" in gear:
            self.memory[key] = (place[0], ask, answer)
        return answer

    def _key(self, ask, place):
        tags = self.of_system.tags
        return (place[1], place[0] if "cut" in tags else None, ask if "word" in tags else None)

    def _is_remembered(self, key):
        if key not in self.memory:
            return False
        return self.limit is None or self.age((self.memory[key][0], key[0])) <= self.limit

    def _note_change(self, ask, answer, place, found):
        """Notes that a doing for a place changes the scene."""
        if place in self.marks:
            found.append("again")
            return
        self.marks[place] = (ask, answer)
        if place in self.closed:
            found.append("unlike" if self.closed[place] else "loose")
        elif self.is_open() and place == self.next_place() and self.present_ask() not in (None, ask):
            found.append("unlike")

    def _write_open(self, found):
        ask = self.present_ask()
        place = self.next_place()
        if place in self.marks and self.marks[place][0] != ask:
            found.append("unlike")
        self.log.append(ask[0] + " ?")

    def _write_answer(self, found):
        ask, place = self.present_ask(), self.next_place()
        if place in self.marks and self.marks[place] != (ask, self.held):
            found.append("unlike")
        if is_undoing(ask) and self.held == "no":
            found.append("stuck")
        self.closed[place] = True
        self._write(ask[0] + " " + self.held)
        self.held = None

    def _write(self, entry):
        if self.is_open():
            self.log.pop()
        self.log.append(entry)
        self.stand = behind(self._forms(), self.stand, entry)

    def _write_plain(self, entry, found):
        """Writes an entry that is not that of a deed."""
        if self.next_place() in self.marks:
            found.append("loose")
        self.closed[self.next_place()] = False
        if entry == "gone" and self.scene != self.shade:
            found.append("left")
        if entry == "gone" and self.is_noticed:
            found.append("noticed")
        self._write(entry)
        if entry.startswith("cut "):
            # The cut is the place 0 of its new log, too, so it counts once.
            self.entries_ahead.append(self.entries_ahead[-1] + len(self.log) - 1)
            self.cuts += 1
            self.log = [entry]
            self.stand = cut_stand(self._forms(), entry)
        if entry == "sure" or entry.startswith("cut "):
            self.shade = self.scene
            self.is_noticed = False
