import random
import unittest

from asneverbegun.errors import InvalidEvent, Refused
from asneverbegun.ideals import ideal, seen_as_one
from asneverbegun.stage import play
from samples import BARE, KEYED, NEWER, PAY, made, random_history, random_system
from values import any_values

TORN = ["over 0", "next", "over 0", "next", "write", "late 0"]
DEEDS = "pay: m by 1, tells m; rest: m back; none: nothing; look: tells m; low: m by 2"


def loses(system, start, edition, events):
    """Whether an answer is lost by a takeover."""
    for at, event in enumerate(events):
        if event.startswith("over") and play(system, start, edition, events[:at]).host[2] is not None:
            return True
    return False


class IdealTest(unittest.TestCase):
    def check(self, system, start, edition, events):
        """The ideal of a history that meets no harm shows the same, and has no falls; it is returned."""
        seen, there = play(system, start, edition, events), ideal(system, start, edition, events)
        self.assertEqual(seen.met, ())
        self.assertIsInstance(there, tuple)
        plain = play(system, start, edition, there)
        self.assertEqual((plain.scene, plain.shade, plain.log), (seen.scene, seen.shade, seen.log), (str(system), events))
        self.assertFalse(any(event.startswith("late") for event in there))
        self.assertFalse(loses(system, start, edition, there))
        self.assertIs(seen_as_one(system, start, edition, events, there), True)
        return there

    def test_the_examples(self):
        plainly = self.check(KEYED, (0, 0), 0, TORN)
        self.assertEqual(play(KEYED, (0, 0), 0, plainly).log, ("book ok",))
        self.assertIsNone(ideal(BARE, (0, 0), 0, TORN))

    def test_histories_without_falls(self):
        events = ["next", "write", "next", "write", "next"]
        self.assertEqual(self.check(KEYED, (0, 0), 0, events), tuple(events))
        self.assertEqual(self.check(KEYED, (0, 0), 0, []), ())
        self.assertEqual(self.check(KEYED, (0, 0), 0, ["next"]), ("next",))
        street = KEYED.with_street(["rest"])
        events = ["street rest", "next", "street rest", "write", "street rest"]
        self.assertEqual(self.check(street, (0, 0), 0, events), tuple(events))

    def test_lost_answers(self):
        self.assertEqual(self.check(KEYED, (0, 0), 0, ["next", "over 0", "next", "write"]), ("next", "write"))
        # The answer is lost and not asked for again: the deed was done, and nothing is written.
        self.assertEqual(self.check(KEYED, (0, 0), 0, ["next", "over 0"]), ("next",))
        self.assertEqual(self.check(KEYED, (0, 0), 0, ["next", "over 0", "over 0"]), ("next",))

    def test_late_deeds(self):
        self.assertEqual(self.check(KEYED, (0, 0), 0, ["over 0", "late 0"]), ("next",))
        self.assertEqual(self.check(KEYED, (0, 0), 0, ["over 0", "late 0", "next", "write"]), ("next", "write"))
        self.assertEqual(self.check(KEYED, (0, 0), 0, ["over 0", "next", "write", "late 0"]), ("next", "write"))

    def test_the_answer_that_is_written_was_given_earlier(self):
        # `look` changes nothing; it is answered from memory by what it told ahead of the deed of the street.
        system = made("m 3", DEEDS + "; up: m by 1", "do look key", street="up")
        events = ["next", "over 0", "street up", "next", "write"]
        self.assertEqual(play(system, (0,), 0, events).log, ("look ok 0",))
        self.assertEqual(self.check(system, (0,), 0, events), ("next", "street up", "write"))
        # Without a key it is answered anew, by the scene as it is then.
        bare = made("m 3", DEEDS + "; up: m by 1", "do look", street="up")
        self.assertEqual(play(bare, (0,), 0, events).log, ("look ok 1",))
        self.assertEqual(self.check(bare, (0,), 0, events), ("street up", "next", "write"))
        # A doing that changes nothing comes first here, then one that does.
        once = made("m 3", "want: needs m 1, m to 2; up: m by 1", "do want", street="up")
        events = ["next", "over 0", "street up", "next", "write"]
        self.assertEqual(self.check(once, (0,), 0, events), ("street up", "next", "write"))

    def test_open_entries(self):
        system = made("m 3", DEEDS, "do pay undo rest ahead key/back")
        self.assertEqual(self.check(system, (0,), 0, ["next"]), ("next",))
        self.assertEqual(self.check(system, (0,), 0, ["next", "over 0"]), ("next",))
        self.assertEqual(self.check(system, (0,), 0, ["next", "next", "over 0"]), ("next", "next"))
        events = ["next", "over 0", "late 0", "next", "write", "next", "next", "over 0", "next"]
        self.check(system, (0,), 0, events)
        # The elder edition does the deed without an open entry, the newer one writes one for it.
        two = made("m 3", DEEDS, "do pay key", "do pay ahead key")
        events = ["next", "over 1", "next"]
        self.assertEqual(play(two, (0,), 0, events).log, ("pay ?",))
        self.assertEqual(self.check(two, (0,), 0, events), ("over 1", "next", "next"))
        self.check(two, (0,), 0, events + ["next", "write", "next"])
        self.assertEqual(self.check(two, (0,), 0, ["next", "over 1"]), ("next",))

    def test_an_open_entry_at_the_end(self):
        two = made("m 3", DEEDS, "do pay", "do pay ahead")
        self.assertEqual(self.check(two, (0,), 0, ["over 1", "next"]), ("over 1", "next"))
        # It is opened by the edition that asks this word.
        two = made("m 3", DEEDS, "do none/do low ahead", "do none/do pay ahead")
        events = ["next", "write", "over 1", "next", "over 1"]
        self.assertEqual(self.check(two, (0,), 0, events), tuple(events[:4]))
        self.assertEqual(self.check(two, (0,), 0, events[:2] + ["next"]), tuple(events[:2] + ["next"]))

    def test_three_editions(self):
        system = made("m 3", DEEDS, "do none/do pay", "do low", "do none/do pay ahead")
        events = ["next", "write", "over 2", "next", "next", "over 2"]
        self.assertEqual(self.check(system, (0,), 0, events), tuple(events[:5]))
        self.assertEqual(self.check(system, (0,), 0, events[:4]), tuple(events[:4]))

    def test_the_one_who_asked_is_to_ask(self):
        # Both take back by `rev`, with other values; the elder one has done so, and its entry stays open.
        deeds = "look: tells b; put: a by 1, tells a; rev: a by 2"
        system = made("a 3, b 2", deeds, "do put undo rev ahead/do look/back", "do put ahead/do look undo rev ahead/back")
        events = ["next", "next", "write", "next", "write", "next", "next", "next", "over 1"]
        seen = play(system, (0, 0), 0, events)
        self.assertEqual((seen.met, seen.log[-1]), ((), "undo rev ?"))
        self.check(system, (0, 0), 0, events)

    def test_editions(self):
        self.check(NEWER, (0, 0), 0, ["over 1", "next", "write", "next"])
        self.check(NEWER, (0, 0), 0, ["next", "over 1", "next", "write", "next"])
        self.check(NEWER, (0, 0), 1, ["next", "over 1", "next", "write", "next"])

    def test_harms(self):
        self.assertIsNone(ideal(PAY, (0,), 0, ["next", "over 0", "next"]))
        self.assertIsNone(ideal(PAY, (0,), 0, ["next", "over 0", "next", "write"]))
        self.assertEqual(self.check(PAY, (0,), 0, ["next", "over 0"]), ("next",))
        first = made("m 3", DEEDS, "back/do pay", "do none")
        self.assertIsNone(ideal(first, (0,), 0, ["next", "over 1"]))
        left = made("m 3", DEEDS, "do pay/back")
        self.assertIsNone(ideal(left, (0,), 0, ["next", "write", "next", "next"]))
        noticed = made("m 3", DEEDS, "do pay undo rest/back", street="look")
        events = ["next", "street look", "write", "next", "next", "write", "next"]
        self.assertIsNone(ideal(noticed, (0,), 0, events))
        self.check(noticed, (0,), 0, events[:-1])

    def test_errors(self):
        for call in (ideal, lambda *row: seen_as_one(*row, [])):
            for value in any_values():
                is_sequence = isinstance(value, (list, tuple))
                if not (is_sequence and len(value) == 0):
                    with self.assertRaises(InvalidEvent) as caught:
                        call(KEYED, (0, 0), 0, value)
                    self.assertEqual(caught.exception.at, 0)
                with self.assertRaises(InvalidEvent) as caught:
                    call(KEYED, (0, 0), 0, ["next", value, "next"])
                self.assertEqual(caught.exception.at, 1)
            for events, at in ((["next", "next"], 1), (["write"], 0), (["late 0"], 0), (["over 1"], 0), (["street no"], None),
                               (["street book"], 0), (["next", "write", "over 0", "late 0", "late 0"], 4)):
                with self.assertRaises(InvalidEvent if at is None else Refused) as caught:
                    call(KEYED, (0, 0), 0, events)
                self.assertEqual(caught.exception.at, 0 if at is None else at)
        # They come also behind a harm.
        with self.assertRaises(Refused) as caught:
            ideal(PAY, (0,), 0, ["next", "over 0", "next", "next"])
        self.assertEqual(caught.exception.at, 3)

    def test_random_histories(self):
        kinds = set()
        for seed in range(250):
            rng = random.Random(seed)
            gears = rng.choice([None, {"key": 0.9}, {"ahead": 0.7}])
            system = random_system(seed, tags=["cut", "word"], gears=gears)
            start, edition, events = random_history(rng, system, rng.choice([5, 10, 15]), rng.choice([0, 0, 0, 0.2]))
            if play(system, start, edition, events).met:
                self.assertIsNone(ideal(system, start, edition, events))
                kinds.add("harmed")
            else:
                there = self.check(system, start, edition, events)
                kinds.add(("late" in " ".join(events), loses(system, start, edition, events), there == tuple(events)))
        self.assertGreater(len(kinds), 5)


class SeenTest(unittest.TestCase):
    def test_seen_as_one(self):
        self.assertIs(seen_as_one(KEYED, (0, 0), 0, ["next"], ["over 0", "late 0"]), True)
        self.assertIs(seen_as_one(KEYED, (0, 0), 0, ["next"], []), False)
        # Other scenes on the way, and another log, are seen.
        system = made("m 3", DEEDS + "; up: m by 1; down: m by 2", "do none", street="up down")
        self.assertIs(seen_as_one(system, (0,), 0, ["street up", "street down"], []), False)
        self.assertIs(seen_as_one(system, (0,), 0, ["next"], []), True)
        self.assertIs(seen_as_one(system, (0,), 0, ["next", "write"], ["next"]), False)
        self.assertIs(seen_as_one(system, (0,), 0, ["street up", "next", "write"], ["next", "write", "street up"]), True)
        self.assertTrue(seen_as_one(others=["next"], events=["next"], edition=0, start=(0,), system=system))

    def test_errors_of_the_first_history_come_first(self):
        for events, others, kind, at in ((["write"], [7], Refused, 0), (["next"], [7], InvalidEvent, 0),
                                         (["next"], ["next", "next"], Refused, 1), (["next", 7], ["write"], InvalidEvent, 1)):
            with self.assertRaises(kind) as caught:
                seen_as_one(KEYED, (0, 0), 0, events, others)
            self.assertEqual(caught.exception.at, at)
        for value in any_values():
            if value not in ([], ()):
                with self.assertRaises(InvalidEvent):
                    seen_as_one(KEYED, (0, 0), 0, [], value)


if __name__ == "__main__":
    unittest.main()
