"""A second stage, written by the words of the document alone and without the package's own one.

It keeps everything that a history tells, in states that can be compared, and looks through all histories up to
some number of events. So it can tell of small systems what the package decides for all histories.
"""

from collections import namedtuple

State = namedtuple(
    "State",
    "scene shade noticed log cuts edition astray held pending memory marks closed",
)


class Naive:
    def __init__(self, system):
        self.system = system
        self.cells = [cell for cell, _ in system.world.cells]
        self.sizes = dict(system.world.cells)
        self.deeds = {deed.name: deed for deed in system.world.deeds}
        self.lines = [[line.split() for line in plan.lines] for plan in system.editions]
        self.reads = {}

    def begin(self, start, edition):
        return State(start, start, False, (), 0, edition, False, None, (), (), (), ())

    # worlds

    def doing(self, scene, name, old):
        deed, now = self.deeds[name], dict(zip(self.cells, scene))
        for cell, value in deed.needs:
            if now[cell] != value:
                return "no", scene
        answer = "ok" + "".join(" %d" % now[cell] for cell in deed.tells)
        new = dict(now)
        for cell, how, number in deed.sets:
            if how == "to":
                new[cell] = number
            elif how == "by":
                new[cell] = (now[cell] + number) % self.sizes[cell]
            elif cell in dict(old):
                new[cell] = dict(old)[cell]
        return answer, tuple(new[cell] for cell in self.cells)

    # reading, anew from the whole log

    def gear(self, edition, at):
        return [word for word in self.lines[edition][at] if word in ("ahead", "claim", "key")]

    def read(self, edition, log):
        """None, or (next thing, whether open): thing is None, or ("ask", word, old, line) or ("write", entry)."""
        if (edition, log) not in self.reads:
            self.reads[(edition, log)] = self._read(edition, log)
        return self.reads[(edition, log)]

    def _read(self, edition, log):
        lines = self.lines[edition]
        at, stack, back, rest = 0, [], False, list(log)
        if rest and rest[0].startswith("cut "):
            if rest[0].split() not in lines:
                return None
            at = lines.index(rest.pop(0).split()) + 1
        while True:
            while at < len(lines) and lines[at][0] == "go":
                at = int(lines[at][1])
            thing = self.thing(edition, at, stack, back)
            if not rest:
                return thing, False
            entry = rest.pop(0)
            if thing[0] == "ask":
                if entry == thing[1] + " ?":
                    return (thing, True) if "ahead" in self.gear(edition, thing[3]) and not rest else None
                if not entry.startswith(thing[1] + " "):
                    return None
                answer = entry[len(thing[1]) + 1:]
                if back:
                    stack.pop()
                    continue
                words = lines[at]
                if answer == "no":
                    at = int(words[-1]) if "else" in words else at + 1
                    continue
                if "undo" in words:
                    stack.append((at, words[3], answer))
                at += 1
                continue
            if entry != thing[1]:
                return None
            if entry == "back":
                back = True
            elif entry == "sure":
                at, stack = at + 1, []
            else:
                return (None, False) if not rest else None

    def thing(self, edition, at, stack, back):
        lines = self.lines[edition]
        if at == len(lines):
            return ("write", "end")
        if back and not stack:
            return ("write", "gone")
        if back:
            line, opposite, answer = stack[-1]
            tells = self.deeds[lines[line][1]].tells
            return ("ask", "undo " + opposite, tuple(zip(tells, map(int, answer.split()[1:]))), line)
        if lines[at][0] == "do":
            return ("ask", lines[at][1], (), at)
        return ("write", " ".join(lines[at]))

    # events

    def place(self, state):
        return (state.cuts, len([entry for entry in state.log if not entry.endswith("?")]))

    def is_open(self, state):
        return bool(state.log) and state.log[-1].endswith("?")

    def present(self, state):
        return None if state.astray else self.read(state.edition, state.log)[0]

    def can(self, state):
        """All events that are possible, with their kinds."""
        out = [("street " + name, "street") for name in self.system.street]
        for edition in range(state.edition, len(self.lines)):
            out.append(("over %d" % edition, "newer" if edition > state.edition else ""))
        for number, row in enumerate(state.pending):
            if not row[-1]:
                out.append(("late %d" % number, "late"))
        if state.held is not None:
            out.append(("write", ""))
        elif self.present(state) is not None:
            out.append(("next", ""))
        return out

    def do(self, state, event):
        """The state behind an event, and the set of harms."""
        words, met = event.split(), set()
        if words[0] == "street":
            answer, scene = self.doing(state.scene, words[1], ())
            other, shade = self.doing(state.shade, words[1], ())
            return state._replace(scene=scene, shade=shade, noticed=state.noticed or answer != other), met
        if words[0] == "over":
            return self.over(state, int(words[1]), met), met
        if words[0] == "late":
            rows = list(state.pending)
            word, old, gear, place, _ = rows[int(words[1])]
            rows[int(words[1])] = (word, old, gear, place, True)
            state = state._replace(pending=tuple(rows))
            if "claim" in gear:
                return state, met
            return self.ask(state, (word, old), gear, place, False, met)[0], met
        if words[0] == "write":
            return self.write_answer(state, met), met
        thing = self.present(state)
        if thing[0] == "write":
            return self.write_other(state, thing[1], met), met
        gear = self.gear(state.edition, thing[3])
        if "ahead" in gear and not self.is_open(state):
            mark = dict(state.marks).get(self.place(state))
            if mark and mark[0] != thing[1:3]:
                met.add("unlike")
            return state._replace(log=state.log + (thing[1] + " ?",)), met
        state, answer = self.ask(state, thing[1:3], gear, self.place(state), True, met)
        return state._replace(held=answer), met

    def over(self, state, edition, met):
        thing = self.present(state)
        if state.held is None and thing and thing[0] == "ask":
            gear = self.gear(state.edition, thing[3])
            if "ahead" not in gear or self.is_open(state):
                row = (thing[1], thing[2], tuple(gear), self.place(state), False)
                state = state._replace(pending=state.pending + (row,))
        astray = self.read(edition, state.log) is None
        if astray:
            met.add("astray")
        return state._replace(edition=edition, held=None, astray=astray)

    def ask(self, state, ask, gear, place, is_present, met):
        key = (place[1],)
        if "cut" in self.system.tags:
            key += (place[0],)
        if "word" in self.system.tags:
            key += (ask,)
        memory = dict(state.memory)
        if "key" in gear and key in memory:
            known_log, known_ask, answer = memory[key]
            if is_present and (known_log != place[0] or known_ask != ask):
                met.add("stale")
            return state, answer
        answer, scene = self.doing(state.scene, ask[0].split()[-1], ask[1])
        marks, closed = dict(state.marks), dict(state.closed)
        if scene != state.scene:
            thing = self.present(state)
            if place in marks:
                met.add("again")
            elif place in closed:
                met.add("unlike" if closed[place] else "loose")
            elif self.is_open(state) and place == self.place(state) and thing and thing[1:3] != ask:
                met.add("unlike")
            marks.setdefault(place, (ask, answer))
        if "key" in gear:
            memory[key] = (place[0], ask, answer)
        rows = tuple(sorted(memory.items(), key=repr)), tuple(sorted(marks.items()))
        return state._replace(scene=scene, memory=rows[0], marks=rows[1]), answer

    def write_answer(self, state, met):
        thing, place = self.present(state), self.place(state)
        mark = dict(state.marks).get(place)
        if mark and mark != (thing[1:3], state.held):
            met.add("unlike")
        if thing[1].startswith("undo ") and state.held == "no":
            met.add("stuck")
        log = state.log[:-1] if self.is_open(state) else state.log
        closed = tuple(sorted(state.closed + ((place, True),)))
        return state._replace(log=log + (thing[1] + " " + state.held,), closed=closed, held=None)

    def write_other(self, state, entry, met):
        place = self.place(state)
        if place in dict(state.marks):
            met.add("loose")
        if entry == "gone" and state.scene != state.shade:
            met.add("left")
        if entry == "gone" and state.noticed:
            met.add("noticed")
        state = state._replace(closed=tuple(sorted(state.closed + ((place, False),))), log=state.log + (entry,))
        if entry.startswith("cut "):
            state = state._replace(log=(entry,), cuts=state.cuts + 1)
        if entry == "sure" or entry.startswith("cut "):
            state = state._replace(shade=state.scene, noticed=False)
        return state


def first_harms(system, depth, most=200000):
    """For each harm the least sets of kinds by which it is met first, in histories of at most so many events.

    Returns (dict of harm to a set of frozensets of kinds, whether all histories of this length were seen).
    """
    naive = Naive(system)
    layer = set()
    for start in system.starts:
        for edition in range(len(system.editions)):
            layer.add((naive.begin(start, edition), frozenset()))
    seen, found = set(layer), {}
    for _ in range(depth):
        following = set()
        for state, kinds in layer:
            for event, kind in naive.can(state):
                used = kinds | ({kind} if kind else set())
                if event.startswith("over") and state.held is not None:
                    used = used | {"lost"}
                behind, met = naive.do(state, event)
                for harm in met:
                    found.setdefault(harm, set()).add(frozenset(used))
                if not met:
                    row = (lean(behind), frozenset(used))
                    if row not in seen:
                        seen.add(row)
                        following.add(row)
        layer = following
        if len(seen) > most:
            return least(found), False
    return least(found), True


def lean(state):
    """Without the pending deeds that were asked, which make no difference any more (but for their numbers)."""
    return state._replace(pending=tuple(row for row in state.pending if not row[-1]))


def least(found):
    return {
        harm: {kinds for kinds in rows if not any(other < kinds for other in rows)}
        for harm, rows in found.items()
    }
