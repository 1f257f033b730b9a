"""The steps of histories with at most one takeover that is not clean, as far as one place is concerned.

A state is a tuple (spot, host, trace, late, aside), with scenes, nodes, asks and askers by their numbers (see
charts):
- host is (node, edition, is_open, held): the present one, with the answer that it holds, or None;
- trace is (mark, memory, torn): the pair (asker, answer) of the doing for the next place that changed the
  scene first, or None; the ascending pairs (ask, answer) that are remembered for this place; and whether a
  takeover was not clean: "", "lost" or "late";
- late is None, or the deed that is still to be asked late: (asker, phase, closer, place). The closer tells by
  whom its place was closed: (edition, line, whether it asked the same), for joints alone;
- aside is (shade, is_noticed, place, known): the shade is None where it makes no difference; the place, and
  the keys of other places under which something is remembered, are told only if keys do not tell the cut.
"""

from asneverbegun.charts import Chart

LATE = 1
LOST = 2
NEWER = 4
STREET = 8
NEXT = ("next", False, False)
WRITE = ("write", False, False)
COME = ("late", False, False)
WORSE = {"changed": "again", "deed": "unlike", "other": "loose"}


class Walker:
    """Tells which steps lead on from a state, or meet a harm.

    With `is_full` all eight harms are told, otherwise the four that papers of calm are about. With `line` only
    takeovers at places of this line can be torn. With `has_closers` steps tell who met by a harm, for joints.
    """

    def __init__(self, system, is_full, line=None, has_closers=False):
        self.chart = Chart(system)
        self.is_full = is_full
        self.line = line
        self.has_closers = has_closers
        forms = [form for plan in system.editions for form in plan.forms]
        is_keyed = any(["key" in form[3] for form in forms])
        self.is_cutless = is_keyed and "cut" not in system.tags and any([form[0] == "cut" for form in forms])
        # Within a log, only lines of unlike editions can ask unlike words for one place.
        has_words = self.is_cutless or len(system.editions) > 1
        self.is_wordless = is_keyed and "word" not in system.tags and has_words
        # What a torn takeover leaves behind its place, but for keys, comes about without it, too ([18]); so does
        # what it leaves at its place, if this cannot make an answer stale.
        self.drops_torn = is_full and not self.is_cutless
        self.is_lean = self.drops_torn and not self.is_wordless
        self.memo = {}
        asks = [self.chart.ask_number((name, ())) for name in system.street]
        self.passing = [(("street " + name, False, False), ask) for name, ask in zip(system.street, asks)]

    def beginnings(self):
        """Returns the pairs of a state at the beginning and (start, edition)."""
        rows = []
        for start in self.chart.of_system.starts:
            for edition in range(len(self.chart.forms)):
                spot, node = self.chart.spot_of[start], self.chart.first_node(edition)
                shade = spot if self._has_shade(node, edition) else None
                host = (node, edition, False, None)
                rows.append(((spot, host, (None, (), ""), None, (shade, False, 0, ())), (start, edition)))
        return rows

    def steps(self, state):
        """Returns the steps from a state: tuples (label, kinds, harms, state behind it or None, who).

        A label is (event, whether a deed is pending by it, whether this is the one that comes late).
        """
        if state not in self.memo:
            out = []
            self._add_street(state, out)
            self._add_present(state, out)
            self._add_over(state, out)
            if state[3] is not None:
                self._add_late(state, out)
            self.memo[state] = out
        return self.memo[state]

    def _has_shade(self, node, edition):
        return self.is_full and self.chart.can_be_gone(node, edition)

    def _add_street(self, state, out):
        spot, host, trace, late, (shade, is_noticed, place, known) = state
        for label, ask in self.passing:
            answer, there = self.chart.doings[ask][spot]
            other, beside = (answer, None) if shade is None else self.chart.doings[ask][shade]
            aside = (beside, is_noticed or answer != other, place, known)
            out.append((label, STREET, (), (there, host, trace, late, aside), None))

    def _add_present(self, state, out):
        _, (node, edition, is_open, held), _, _, _ = state
        kind, what = self.chart.thing(node, edition)
        if kind == "write":
            self._add_plain(state, what, out)
        elif kind == "ask" and held is not None:
            self._add_write(state, what, out)
        elif kind == "ask" and self.chart.has_gear(what, "ahead") and not is_open:
            self._add_open(state, what, out)
        elif kind == "ask":
            self._add_ask(state, what, out)

    def _add_ask(self, state, asker, out):
        spot, (node, edition, is_open, _), (mark, _, _), late, aside = state
        pair = self._recalled(state, asker)
        if pair is not None and pair[0] != self.chart.asking(asker):
            out.append((NEXT, 0, ("stale",), None, None))
            return
        if pair is not None:
            held, harm, there, trace = pair[1], None, spot, state[2]
        else:
            held = self.chart.doing(asker, spot)[0]
            harm, there, trace = self._done(state, asker)
        if harm is not None:
            out.append((NEXT, 0, (harm,), None, self._who(state, mark[0], asker)))
        else:
            out.append((NEXT, 0, (), (there, (node, edition, is_open, held), trace, late, aside), None))

    def _recalled(self, state, asker):
        """Returns the pair (ask, answer) from which an asker is answered for the next place, or None.

        What is remembered from elder logs is told as (-1, None).
        """
        _, _, (_, memory, _), _, (_, _, place, known) = state
        if not self.chart.has_gear(asker, "key"):
            return None
        ask = self.chart.asking(asker)
        if self.is_cutless and self._key(place, ask) in known:
            return (-1, None)
        for pair in memory:
            if self.is_wordless or pair[0] == ask:
                return pair
        return None

    def _key(self, place, ask):
        return (place, -1 if self.is_wordless else ask)

    def _done(self, state, asker):
        """Does what is asked for the next place: returns the harm or None, the scene, and the trace."""
        spot, _, (mark, memory, torn), _, _ = state
        answer, there = self.chart.doing(asker, spot)
        if there != spot and mark is not None:
            return ("again", there, None)
        if there != spot:
            mark = (asker, answer)
        if self.chart.has_gear(asker, "key"):
            memory = tuple(sorted([*memory, (self.chart.asking(asker), answer)]))
        return (None, there, (mark, memory, torn))

    def _add_open(self, state, asker, out):
        spot, (node, edition, _, held), trace, late, aside = state
        mark = trace[0]
        if mark is not None and self.chart.asking(mark[0]) != self.chart.asking(asker):
            out.append((NEXT, 0, ("unlike",), None, self._who(state, mark[0], asker)))
        else:
            out.append((NEXT, 0, (), (spot, (node, edition, True, held), trace, late, aside), None))

    def _add_write(self, state, asker, out):
        _, (_, _, _, held), (mark, _, _), _, _ = state
        word, found, who = self.chart.word_of(asker), [], None
        if self.is_full and held == "no" and word.startswith("undo "):
            found.append("stuck")
        if mark is not None and (self.chart.asking(mark[0]), mark[1]) != (self.chart.asking(asker), held):
            found.append("unlike")
            who = self._who(state, mark[0], asker)
        if found:
            out.append((WRITE, 0, tuple(found), None, who))
        else:
            phase = "deed" if mark is None else "changed"
            self._add_closed(state, word + " " + held, (phase, asker), WRITE, out)

    def _add_plain(self, state, entry, out):
        spot, _, (mark, _, _), _, (shade, is_noticed, _, _) = state
        found, who = [], None
        if mark is not None:
            found.append("loose")
            who = self._who(state, mark[0], None)
        if self.is_full and entry == "gone" and shade != spot:
            found.append("left")
        if self.is_full and entry == "gone" and is_noticed:
            found.append("noticed")
        if found:
            out.append((NEXT, 0, tuple(found), None, who))
        else:
            self._add_closed(state, entry, ("other", None), NEXT, out)

    def _add_closed(self, state, entry, closing, label, out):
        """Puts in the step by which the next place is closed; closing is (phase, asker or None)."""
        spot, (node, edition, _, _), (_, _, torn), late, _ = state
        if late is not None and late[1] == "here":
            late = self._late_behind(state, closing)
        if self.drops_torn and torn and late is None:
            return
        node = self.chart.behind(node, edition, entry)
        aside = self._aside_behind(state, node, entry)
        out.append((label, 0, (), (spot, (node, edition, False, None), (None, (), torn), late, aside), None))

    def _late_behind(self, state, closing):
        """Returns the late deed when its place is closed; None if it is answered from memory anyway."""
        _, (_, edition, _, _), (_, memory, _), (late, _, _, place), _ = state
        phase, asker = closing
        ask = self.chart.asking(late)
        if self.chart.has_gear(late, "key") and any([self.is_wordless or pair[0] == ask for pair in memory]):
            return None
        closer = self._closer(edition, asker, late) if self.has_closers else None
        return (late, phase, closer, place)

    def _aside_behind(self, state, node, entry):
        spot, (_, edition, _, _), (_, memory, _), _, (shade, is_noticed, place, known) = state
        is_cut = entry.startswith("cut ")
        if is_cut or entry == "sure":
            shade, is_noticed = spot, False
        if not self._has_shade(node, edition):
            shade, is_noticed = None, False
        if self.is_cutless:
            known = _with_keys(known, [self._key(place, pair[0]) for pair in memory])
            place = 1 if is_cut else place + 1
        return (shade, is_noticed, place, known)

    def _add_over(self, state, out):
        _, (node, edition, is_open, held), (mark, _, torn), _, _ = state
        if held is not None and torn:
            return
        kind, asker = self.chart.thing(node, edition)
        is_asking = kind == "ask" and held is None and (is_open or not self.chart.has_gear(asker, "ahead"))
        for newer in range(edition, len(self.chart.forms)):
            kinds = (NEWER if newer > edition else 0) + (LOST if held is not None else 0)
            is_read = self.chart.nodes.rows[node][newer] != -1
            if not is_read or is_open and not self.chart.reads_open(node, newer, asker):
                out.append(((f"over {newer}", is_asking, False), kinds, ("astray",), None, None))
                continue
            if held is None or self._can_tear(asker, mark is not None):
                out.append(((f"over {newer}", is_asking, False), kinds, (), self._taken(state, newer, None), None))
            if is_asking and not torn and self._can_be_late(asker):
                out.append(((f"over {newer}", True, True), kinds, (), self._taken(state, newer, asker), None))

    def _taken(self, state, newer, asker):
        """Returns the state behind a takeover; what the asker asks (None: nothing) comes late from now on."""
        spot, (node, _, is_open, held), (mark, memory, torn), late, (shade, is_noticed, place, known) = state
        node = self.chart.narrowed(node, newer)
        if not self._has_shade(node, newer):
            shade, is_noticed = None, False
        if held is not None:
            torn = "lost"
        if asker is not None:
            torn, late = "late", (asker, "here", None, place)
        trace = (mark, memory, torn)
        return (spot, (node, newer, is_open, None), trace, late, (shade, is_noticed, place, known))

    def _can_tear(self, asker, has_changed):
        """Tells whether a takeover that is not clean must be looked at, where this is asked."""
        return (has_changed or not self.is_lean) and self.line in (None, self.chart.askers.rows[asker][1])

    def _can_be_late(self, asker):
        return not self.chart.has_gear(asker, "claim") and self._can_tear(asker, self.chart.can_change(asker))

    def _add_late(self, state, out):
        spot, host, trace, (asker, phase, closer, place), (shade, is_noticed, here, known) = state
        if phase == "here":
            self._add_late_here(state, asker, out)
            return
        is_keyed = self.is_cutless and self.chart.has_gear(asker, "key")
        is_known = is_keyed and self._is_known(state, asker, place)
        if not is_known and self.chart.doing(asker, spot)[1] != spot:
            out.append((COME, LATE, (WORSE[phase],), None, (asker, "late", closer)))
            return
        if is_keyed and not is_known:
            known = _with_keys(known, [self._key(place, self.chart.asking(asker))])
        if not self.drops_torn:
            out.append((COME, LATE, (), (spot, host, trace, None, (shade, is_noticed, here, known)), None))

    def _is_known(self, state, asker, place):
        """Tells whether something is remembered under the key of a late deed whose place is closed."""
        _, _, (_, memory, _), _, (_, _, here, known) = state
        ask = self.chart.asking(asker)
        if self._key(place, ask) in known:
            return True
        return place == here and any([self.is_wordless or pair[0] == ask for pair in memory])

    def _add_late_here(self, state, asker, out):
        spot, host, trace, _, aside = state
        node, edition, is_open, _ = host
        mark = trace[0]
        harm, there, behind = None, spot, trace
        if self._recalled(state, asker) is None:
            harm, there, behind = self._done(state, asker)
        if harm is not None:
            out.append((COME, LATE, (harm,), None, (asker, "late", self._closer_of(mark[0], asker))))
            return
        if is_open and there != spot:
            present = self.chart.thing(node, edition)[1]
            if self.chart.asking(present) != self.chart.asking(asker):
                out.append((COME, LATE, ("unlike",), None, (asker, "late", self._closer_of(present, asker))))
                return
        if there != spot or not self.is_lean:
            out.append((COME, LATE, (), (there, host, behind, None, aside), None))

    def _closer(self, edition, asker, other):
        """Returns who is the other one for a place: an asker of an edition, or one who asks nothing there."""
        if asker is None:
            return (edition, -1, False)
        return (edition, self.chart.askers.rows[asker][1], self.chart.asking(asker) == self.chart.asking(other))

    def _closer_of(self, asker, other):
        return self._closer(self.chart.askers.rows[asker][0], asker, other)

    def _who(self, state, left, asker):
        """Returns who met at the next place: the asker that was left, its way, and the present host."""
        _, (_, edition, _, _), (_, _, torn), _, _ = state
        return (left, torn, self._closer(edition, asker, left))


def _with_keys(known, keys):
    return tuple(sorted(set([*known, *keys])))
