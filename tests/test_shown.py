import random
import unittest

from asneverbegun.errors import InvalidEvent, Refused
from asneverbegun.ideals import ideal
from asneverbegun.shown import accused, explained, shown
from asneverbegun.stage import play
from naive import Naive
from plainly import keyless
from samples import BARE, KEYED, NEWER, PAY, made, random_history, random_system
from values import any_values

TORN = ["next", "over 0", "next", "write"]
DEEDS = "pay: m by 1, tells m; rest: m back; none: nothing; up: m by 1; low: m by 2"
FIVE = {"again", "unlike", "loose", "astray", "stale"}


def all_shown(system, start, edition, depth, most=3000):
    """The least number of events for each pair (row, log) that histories without falls show, up to a depth."""
    naive, best, seen = Naive(keyless(system)), {}, set()
    layer = [(naive.begin(start, edition), (start,))]
    for size in range(depth + 1):
        following = []
        for state, row in layer:
            best.setdefault((row, state.log), size)
            for event, _ in naive.can(state):
                if event.startswith("late") or event.startswith("over") and state.held is not None:
                    continue
                behind = naive.do(state, event)[0]._replace(pending=(), memory=(), marks=(), closed=(), cuts=0)
                longer = (behind, row if behind.scene == row[-1] else row + (behind.scene,))
                if longer not in seen:
                    seen.add(longer)
                    following.append(longer)
        layer = following
        if len(seen) > most:
            return best, size
    return best, depth


class ShownTest(unittest.TestCase):
    def test_the_examples(self):
        self.assertEqual(shown(BARE, (0, 0), 0, TORN), (((0, 0), (1, 0)), ("book no",)))
        self.assertIsNone(explained(BARE, (0, 0), 0, *shown(BARE, (0, 0), 0, TORN)))
        self.assertEqual(accused(BARE, (0, 0), 0, TORN), 3)
        self.assertEqual(explained(BARE, (0, 0), 0, [(0, 0), (1, 0)], ["book ok"]), ("next", "write"))

    def test_shown(self):
        system = made("m 3", DEEDS, "do none/do pay/cut k/do up", street="up")
        self.assertEqual(shown(system, (0,), 0, []), (((0,),), ()))
        self.assertEqual(shown(system, (0,), 0, ["next", "write"]), (((0,),), ("none ok",)))
        events = ["street up", "next", "write", "next", "over 0", "street up", "next", "write", "next"]
        self.assertEqual(shown(system, (0,), 0, events), (((0,), (1,), (2,), (0,), (1,)), ("cut k",)))
        self.assertEqual(shown(start=(0,), system=system, events=["next"], edition=0), (((0,),), ()))

    def test_errors(self):
        for call in (shown, accused):
            for value in any_values():
                if value not in ([], ()):
                    with self.assertRaises(InvalidEvent) as caught:
                        call(KEYED, (0, 0), 0, value)
                    self.assertEqual(caught.exception.at, 0)
                with self.assertRaises(InvalidEvent) as caught:
                    call(KEYED, (0, 0), 0, ("next", "write", value))
                self.assertEqual(caught.exception.at, 2)
            for events, at in ((["next", "next"], 1), (["write"], 0), (["next", "late 0"], 1), (["over 1"], 0)):
                with self.assertRaises(Refused) as caught:
                    call(KEYED, (0, 0), 0, events)
                self.assertEqual(caught.exception.at, at)


class ExplainedTest(unittest.TestCase):
    def check(self, system, row, log, wanted, edition=0):
        """Whether a row and a log are explained by so many events (None: not at all)."""
        row = [tuple(int(value) for value in scene) for scene in row.split()]
        events = explained(system, system.starts[0], edition, row, log)
        self.assertEqual(None if events is None else len(events), wanted, events)
        if events is not None:
            self.assertIsInstance(events, tuple)
            self.assertEqual(shown(keyless(system), system.starts[0], edition, events), (tuple(row), tuple(log)))

    def test_rows(self):
        system = made("m 3", DEEDS, "do pay undo rest/back", street="low")
        self.check(system, "0", [], 0)
        self.check(system, "0 1", [], 1)
        self.check(system, "0 2", [], 1)
        self.check(system, "0 2 1 0", [], 3)
        self.check(system, "0 1", ["pay ok 0"], 2)
        self.check(system, "0 2 0", ["pay ok 2"], 3)
        self.check(system, "0 1 0", ["pay ok 0", "back"], 4)
        self.check(system, "0 1 0", ["pay ok 0", "back", "undo rest ok", "gone"], 6)
        self.check(system, "0 1 2 0", ["pay ok 0", "back"], None)
        # Another first scene, and two alike neighbours, are shown by none.
        self.check(system, "1", [], None)
        self.check(system, "1 2", [], None)
        self.check(system, "0 0", [], None)
        self.check(system, "0 1 1", ["pay ok 0"], None)
        # So are scenes to which nothing leads.
        self.check(made("m 3", DEEDS, "do pay"), "0 2", ["pay ok 0"], None)
        self.check(made("m 3", DEEDS, "do pay"), "0 1 2", ["pay ok 0"], None)

    def test_logs_that_no_history_writes(self):
        system = made("m 3", DEEDS, "do pay undo rest ahead/back", street="low")
        for log in (["pay ok 1"], ["pay ok"], ["none ok"], ["back"], ["pay ok 0", "gone"], ["cut k"], ["pay ok 0", "cut k"],
                    ["pay ?", "pay ok 0"], ["pay ok 0", "pay ?"], ["undo rest ?"], ["end"], ["pay no"]):
            self.check(system, "0 1", log, None)
        self.check(system, "0", ["pay ok 0"], None)

    def test_open_entries(self):
        system = made("m 3", DEEDS, "do pay undo rest ahead/back", street="low")
        self.check(system, "0", ["pay ?"], 1)
        self.check(system, "0 1", ["pay ?"], 2)
        self.check(system, "0 1", ["pay ok 0"], 3)
        self.check(system, "0 1", [], None)
        self.check(system, "0 2 1", [], 2)
        self.check(system, "0 1", ["pay ok 0", "back", "undo rest ?"], 5)
        self.check(system, "0 1 0", ["pay ok 0", "back", "undo rest ?"], 6)

    def test_behind_cuts(self):
        system = made("m 3", DEEDS, "do pay/cut k/do none/cut l/go 0")
        self.check(system, "0 1", ["cut k"], 3)
        self.check(system, "0 1", ["cut k", "none ok"], 5)
        self.check(system, "0 1", ["cut l"], 6)
        self.check(system, "0 1 2", ["cut l"], 7)
        self.check(system, "0 1 2", ["cut l", "pay ok 1"], 8)
        self.check(system, "0 1 2 0", ["cut k", "none ok"], 17)
        self.check(system, "0 1 2", ["cut k"], 9)
        self.check(system, "0", ["cut k"], None)
        self.check(system, "0 1", ["cut k", "cut l"], None)
        self.check(system, "0 1", ["none ok", "cut l"], None)
        self.check(system, "0 1", ["cut m"], None)
        self.check(system, "0 1", ["pay ok 0", "cut k"], None)
        self.check(system, "0 1", ["cut k", "none ok", "cut l"], None)

    def test_editions(self):
        system = made("m 3", DEEDS, "do pay/do none", "do pay/do up", "do none")
        system = system.with_editions(system.editions[:2])
        self.check(system, "0 1", ["pay ok 0"], 2)
        self.check(system, "0 1", ["pay ok 0", "none ok"], 4)
        self.check(system, "0 1 2", ["pay ok 0", "up ok"], 5)
        self.check(system, "0 1 2", ["pay ok 0", "up ok"], 4, edition=1)
        self.check(system, "0 1", ["pay ok 0", "none ok"], None, edition=1)
        # The newer edition takes over an open entry only if it reads it.
        for gear, wanted, more in ((" ahead", 6, 4), ("", 5, None)):
            opening = made("m 3", DEEDS, "do pay ahead/do none", "do pay%s/do up" % gear)
            self.check(opening, "0 1 2", ["pay ok 0", "up ok"], wanted)
            self.check(opening, "0", ["pay ?"], 1)
            self.check(opening, "0", ["pay ?"], None if more is None else 1, edition=1)
        opening = made("m 3", DEEDS, "do pay/do none", "do pay ahead/do up")
        self.check(opening, "0", ["pay ?"], 2)
        self.check(NEWER, "00 10", ["book ok", "end"], 4)

    def test_keys_make_no_difference(self):
        system = made("m 3", DEEDS, "do pay key/cut k/do none key/do pay key", keys="-")
        self.check(system, "0 1 2", ["cut k", "none ok", "pay ok 1"], 7)
        self.check(system, "0 1", ["cut k", "none ok", "pay ok 1"], None)

    def test_by_keywords(self):
        self.assertEqual(explained(log=(), row=((0, 0),), edition=0, start=(0, 0), system=BARE), ())

    def test_random_histories(self):
        seen = 0
        for seed in range(120):
            rng = random.Random(seed)
            system = random_system(seed, size=2)
            start, edition = rng.choice(system.starts), rng.randrange(len(system.editions))
            best, depth = all_shown(system, start, edition, 7)
            views = sorted(best)
            for row, log in rng.sample(views, min(len(views), 12)):
                events = explained(system, start, edition, row, log)
                self.assertEqual(len(events), best[(row, log)], str(system))
                self.assertEqual(shown(keyless(system), start, edition, events), (row, log))
            for _ in range(6):
                row, log = rng.choice(views)[0], rng.choice(views)[1]
                events = explained(system, start, edition, list(row), list(log))
                if (row, log) not in best and events is None:
                    seen += 1
                elif (row, log) not in best:
                    self.assertGreater(len(events), depth - 1)
                    self.assertEqual(shown(keyless(system), start, edition, events), (row, log))
        self.assertGreater(seen, 50)


class AccusedTest(unittest.TestCase):
    def test_accused(self):
        self.assertIsNone(accused(KEYED, (0, 0), 0, TORN))
        self.assertIsNone(accused(BARE, (0, 0), 0, []))
        self.assertEqual(accused(PAY, (0,), 0, ["next", "over 0", "next"]), 2)
        self.assertEqual(accused(PAY, (0,), 0, ["next", "over 0", "next", "write", "next"]), 2)
        first = made("m 3", DEEDS, "do pay", "do none")
        self.assertIsNone(accused(first, (0,), 0, ["next", "write", "over 1"]))
        self.assertEqual(play(first, (0,), 0, ["next", "write", "over 1"]).met, ((2, "astray"),))

    def test_the_street_can_hide_a_harm(self):
        hiding = made("m 3", DEEDS, "do up", street="up")
        events = ["next", "over 0", "next"]
        self.assertEqual(play(hiding, (0,), 0, events).met, ((2, "again"),))
        self.assertIsNone(accused(hiding, (0,), 0, events))

    def test_what_is_explained_in_the_end_is_not_accused(self):
        # With an empty log nobody flips twice, but behind one entry it can be the second one.
        system = made("m 2", "flip: m by 1", "do flip/do flip")
        events = ["next", "over 0", "next", "write"]
        self.assertEqual(accused(system, (0,), 0, events[:3]), 2)
        self.assertIsNone(accused(system, (0,), 0, events))

    def test_the_first_event_that_is_not_explained(self):
        found = set()
        for seed in range(150):
            rng = random.Random(seed)
            system = random_system(seed, gears=rng.choice([None, {"key": 0.2}]))
            start, edition, events = random_history(rng, system, 10)
            at = accused(system, start, edition, events)
            views = [shown(system, start, edition, events[:size]) for size in range(len(events) + 1)]
            unknown = [size for size, view in enumerate(views) if explained(system, start, edition, *view) is None]
            is_known = len(events) not in unknown
            self.assertEqual(at, None if is_known else unknown[0] - 1)
            met = [number for number, harm in play(system, start, edition, events).met if harm in FIVE]
            if at is not None:
                self.assertLessEqual(met[0], at)
            found.add((at is None, bool(met)))
        self.assertEqual(found, {(True, True), (True, False), (False, True)})

    def test_histories_without_harm_are_explained(self):
        for seed in range(120):
            rng = random.Random(seed)
            system = random_system(seed, tags=["cut", "word"])
            start, edition, events = random_history(rng, system, 12, 0)
            self.assertIsNone(accused(system, start, edition, events))
            there = explained(system, start, edition, *shown(system, start, edition, events))
            self.assertLessEqual(len(there), len(ideal(system, start, edition, events)))


if __name__ == "__main__":
    unittest.main()
