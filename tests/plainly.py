"""All plain histories of a small system, event by event and with whole logs, by the second stage (naive).

What the package decides for all plain histories is told here again by the words of the document alone.
"""

from collections import namedtuple

from asneverbegun.plans import do_lines, stand
from naive import Naive

# One event: what was asked by it (a word, what is got back, a line, an answer) or None, the closed entry that
# was written or None, and the harms that were met.
Edge = namedtuple("Edge", "event ahead behind asked entry met")


def keyless(system):
    """The system as if no line had the gear `key`."""
    editions = []
    for plan in system.editions:
        for at in do_lines(plan):
            plan = plan.with_gear(at, [word for word in plan.gear(at) if word != "key"])
        editions.append(plan)
    return system.with_editions(editions)


class Plainly:
    """The graph of all states; `is_whole` tells whether there were no more of them than `most`."""

    def __init__(self, system, edition, most=600):
        self.system = keyless(system)
        self.edition = edition
        self.naive = Naive(self.system)
        self.begins = [self.naive.begin(start, edition) for start in system.starts]
        self.edges = {}
        rows = list(self.begins)
        for state in rows:
            if state not in self.edges and len(self.edges) <= most:
                self.edges[state] = self.edges_from(state)
                rows += [edge.behind for edge in self.edges[state]]
        self.is_whole = len(self.edges) <= most

    def edges_from(self, state):
        rows = []
        for event, _ in self.naive.can(state):
            if event.split()[0] not in ("next", "write", "street"):
                continue
            behind, met = self.naive.do(state, event)
            asked, entry = None, None
            if event == "next" and behind.held is not None:
                asked = self.naive.present(state)[1:] + (behind.held,)
            elif event in ("next", "write") and not behind.log[-1].endswith("?"):
                entry = behind.log[-1]
            behind = behind._replace(pending=(), memory=(), marks=(), closed=(), cuts=0)
            rows.append(Edge(event, state, behind, asked, entry, met))
        return rows

    def all_edges(self):
        return [edge for rows in self.edges.values() for edge in rows]

    def later(self, state, is_within=False):
        """All edges that can come behind a state (with no `sure` and no `cut` ahead of them)."""
        seen, rows, found = {state}, [state], []
        for here in rows:
            for edge in self.edges[here]:
                found.append(edge)
                is_end = edge.entry is not None and edge.entry.split()[0] in ("sure", "cut")
                if not (is_within and is_end) and edge.behind not in seen:
                    seen.add(edge.behind)
                    rows.append(edge.behind)
        return found

    def stand(self, state, edition=None):
        log = [entry for entry in state.log if not entry.endswith("?")]
        return stand(self.system.editions[self.edition if edition is None else edition], log)

    def deeds(self, at=None):
        """The edges by which the deed of a line (of any line) is asked."""
        rows = [edge for edge in self.all_edges() if edge.asked and not edge.asked[0].startswith("undo ")]
        return [edge for edge in rows if at is None or edge.asked[2] == at]

    # opposites

    def pairs(self, at):
        rows = [(edge.behind.scene, edge.ahead.scene, edge.asked[3]) for edge in self.deeds(at)]
        rows = [row for row in rows if row[2] != "no"]
        for there, without, answer in rows:
            for name in self.system.street:
                new = (self.naive.doing(there, name, ())[1], self.naive.doing(without, name, ())[1], answer)
                if new not in rows:
                    rows.append(new)
        return tuple(sorted(set(rows)))

    def faults(self, at, pairs=None):
        plan, found = self.system.editions[self.edition], set()
        for there, without, answer in self.pairs(at) if pairs is None else pairs:
            found |= taken_back(self.system, plan, at, there, without, answer)
            for name in self.system.street:
                if self.naive.doing(there, name, ())[0] != self.naive.doing(without, name, ())[0]:
                    found.add("noticed")
        return tuple(sorted(found))

    def clean(self, at):
        return set(self.faults(at)) <= {"noticed"}

    # pivots

    def sure_lines(self):
        lines = {edge.asked[2] for edge in self.deeds()}
        return tuple(sorted(lines - {edge.asked[2] for edge in self.deeds() if edge.asked[3] == "no"}))

    def backed(self):
        found = set()
        for edge in self.deeds():
            if edge.asked[3] != "no" and any(row.entry == "back" for row in self.later(edge.behind, True)):
                found.add(edge.asked[2])
        return tuple(sorted(found))

    def is_in_danger(self, state):
        """Whether `back` can be written behind this moment, or a deed be answered `no`."""
        for edge in self.later(state):
            is_deed = edge.asked and not edge.asked[0].startswith("undo ")
            if edge.entry == "back" or is_deed and edge.asked[3] == "no":
                return True
        return False

    def firm(self):
        lines, others = set(), set()
        for state in self.edges:
            line, is_back, _, _ = self.stand(state)
            if not is_back and line >= 0:
                lines.add(line)
                if self.is_in_danger(state):
                    others.add(line)
        return tuple(sorted(lines - others))

    def pivots(self):
        firm, lines, others = self.firm(), set(), set()
        for edge in self.all_edges():
            if edge.event == "write" and not edge.entry.startswith("undo") and not edge.entry.endswith(" no"):
                at = self.stand(edge.ahead)[0]
                lines.add(at)
                if self.stand(edge.behind)[0] not in firm:
                    others.add(at)
        return tuple(sorted(lines - others - set(firm)))

    # editions

    def logs(self):
        return {state.log for state in self.edges}

    def reads(self):
        return all(stand(self.system.editions[1], log) is not None for log in self.logs())

    def mixed(self):
        found = set()
        for log in self.logs():
            rows = [stand(plan, log) for plan in self.system.editions]
            if rows[1] is not None and not rows[0][1] and not rows[1][1]:
                found.add((rows[0][0], rows[1][0]))
        return tuple(sorted(found))

    def ahead_lines(self):
        found = set()
        for edge in self.all_edges():
            if edge.asked and edge.ahead.scene != edge.behind.scene:
                log = tuple(entry for entry in edge.ahead.log if not entry.endswith("?"))
                other = self.naive.read(1, log)
                if other is not None and (other[0] is None or other[0][1:3] != edge.asked[:2]):
                    found.add(edge.asked[2])
        return tuple(sorted(found))

    def estranged(self):
        plans, found = self.system.editions, set()
        for edge in self.all_edges():
            if edge.event != "write" or edge.entry.startswith("undo") or edge.entry.endswith(" no"):
                continue
            if stand(plans[1], edge.behind.log) is not None:
                lines = self.stand(edge.ahead)[0], self.stand(edge.ahead, 1)[0]
                for there, without, answer in self.pairs(lines[0]):
                    if taken_back(self.system, plans[1], lines[1], there, without, answer):
                        found.add(lines)
        return tuple(sorted(found))


def taken_back(system, plan, at, there, without, answer):
    """The faults of taking back by the opposite of a line."""
    naive = Naive(system)
    opposite = plan.opposite(at)
    if opposite is None:
        return set() if there == without else {"left"}
    cells = sorted(naive.deeds[plan.deed(at)].tells)
    other, scene = naive.doing(there, opposite, tuple(zip(cells, map(int, answer.split()[1:]))))
    if other == "no":
        return {"stuck"}
    return set() if scene == without else {"left"}


def logs_of_stands(system, edition, most=300):
    """For each stand of an edition some log that leads to it, of those in its plain histories."""
    found = {}
    for state in Plainly(system, edition, most).edges:
        found.setdefault(stand(system.editions[edition], state.log), state.log)
    return found


def left_steps(system, edition, triple, log):
    """The triples to which one of a left paper leads; None if it must not be there. The log leads to its stand."""
    naive, plan = Naive(system), system.editions[edition]
    scene, shade, there = triple
    rows = [(naive.doing(scene, name, ())[1], naive.doing(shade, name, ())[1], there) for name in system.street]
    thing, _ = naive.read(edition, log)
    if thing is None:
        return rows
    if thing[0] == "ask":
        answer, beyond = naive.doing(scene, thing[1].split()[-1], thing[2])
        if answer == "no" and thing[1].startswith("undo "):
            return None
        return rows + [(beyond, shade, stand(plan, log + (thing[1] + " " + answer,)))]
    if thing[1] == "gone" and scene != shade:
        return None
    if thing[1].startswith("cut "):
        return rows + [(scene, scene, stand(plan, [thing[1]]))]
    return rows + [(scene, scene if thing[1] == "sure" else shade, stand(plan, log + (thing[1],)))]


def reading_steps(system, triple, logs):
    """The triples to which one of a reading paper leads (a stand is None if the log is not read)."""
    naive, plans = Naive(system), system.editions
    scene, elder, newer = triple
    rows = [(naive.doing(scene, name, ())[1], elder, newer) for name in system.street]
    thing, is_open = naive.read(0, logs[0])
    if thing is None:
        return rows
    entry = thing[1]
    if thing[0] == "ask" and "ahead" in naive.gear(0, thing[3]) and not is_open:
        entry += " ?"
    elif thing[0] == "ask":
        answer, scene = naive.doing(scene, entry.split()[-1], thing[2])
        entry += " " + answer
    if entry.startswith("cut "):
        return rows + [(scene, stand(plans[0], [entry]), stand(plans[1], [entry]))]
    if is_open:
        logs = [log[:-1] if log[-1:] and log[-1].endswith("?") else log for log in logs]
    return rows + [(scene, stand(plans[0], logs[0] + (entry,)), stand(plans[1], logs[1] + (entry,)))]


def harmful_ages(plainly, at, most):
    """The ages up to `most` at which asking once more what a line asked changes the scene."""
    found = set()
    for asking in plainly.all_edges():
        if not asking.asked or asking.asked[2] != at:
            continue
        word, old, _, _ = asking.asked
        for state, age in ages_behind(plainly, asking, most):
            if plainly.naive.doing(state.scene, word.split()[-1], old)[1] != state.scene:
                found.add(age)
    return tuple(sorted(found))


def ages_behind(plainly, asking, most):
    """All pairs of a state and the age that the place of an asking has there, from 1 to `most`."""
    rows, found = [(asking.behind, 0)], set()
    for state, age in rows:
        for edge in plainly.edges[state]:
            row = (edge.behind, age + (edge.entry is not None))
            if row[1] <= most and row not in found:
                found.add(row)
                rows.append(row)
    return {row for row in found if row[1] > 0}


def nearest_age(system, plainly, most):
    """The least age, up to `most`, of a place at which its key is used again in a later log, or None."""
    def key_of(edge):
        if not edge.asked or "key" not in system.editions[0].gear(edge.asked[2]):
            return None
        place = len([entry for entry in edge.ahead.log if not entry.endswith("?")])
        return (place, edge.asked[:2] if "word" in system.tags else None)

    ages = []
    for asking in plainly.all_edges():
        if key_of(asking) is None:
            continue
        rows, seen = [(asking.behind, 0, False)], set()
        for state, age, is_later in rows:
            for edge in plainly.edges[state]:
                if is_later and key_of(edge) == key_of(asking):
                    ages.append(age)
                is_cut = edge.entry is not None and edge.entry.startswith("cut")
                row = (edge.behind, age + (edge.entry is not None), is_later or is_cut)
                if row[1] <= most and row not in seen:
                    seen.add(row)
                    rows.append(row)
    return min(ages, default=None)
