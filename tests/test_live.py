import random
import unittest

from asneverbegun.errors import InvalidEvent, InvalidScene, Refused
from asneverbegun.live import Live
from asneverbegun.stage import Played, play
from samples import BARE, KEYED, NEWER, made, possible, random_history, random_system
from values import any_values

TORN = ["next", "write", "next", "over 0", "next"]
NAMES = ("scene", "shade", "log", "cuts", "host", "pending", "met")


def seen(played):
    return tuple(getattr(played, name) for name in NAMES)


def state(live):
    return live.events, seen(live.played), len(live), live.can()


class LiveTest(unittest.TestCase):
    def assert_plays(self, live, start, edition):
        self.assertEqual(seen(live.played), seen(play(live.system, start, edition, live.events)))
        self.assertEqual(live.can(), tuple(sorted(possible(live.system, start, edition, list(live.events)))))

    def assert_refused(self, call, *arguments, at, error=Refused):
        with self.assertRaises(error) as caught:
            call(*arguments)
        self.assertEqual(caught.exception.at, at)

    def test_the_beginning(self):
        live = Live(NEWER, (0, 0), 1)
        self.assertIs(live.system, NEWER)
        self.assertEqual((live.events, len(live)), ((), 0))
        self.assertIsInstance(live.played, Played)
        self.assertEqual(live.played.host, (1, 0, None))
        self.assertEqual(Live(NEWER, (0, 0)).played.host, (0, 0, None))
        self.assertEqual(Live(edition=1, start=(0, 0), system=NEWER).can(), ("next", "over 1"))
        self.assertEqual(Live(NEWER, (0, 0)).can(), ("next", "over 0", "over 1"))

    def test_no_starts(self):
        wide = made("a 2, m 3", "set: a to 1", "do set", starts=["0 0", "1 2"])
        self.assertEqual(Live(wide, (1, 2)).played.scene, (1, 2))
        for value in any_values() + [(0, 1), (1, 0), [0, 0], (False, 0), (0, False), (True, 2), (0, 0, 0), (0,), "0 0", (0, 3), None]:
            with self.assertRaises(InvalidScene):
                Live(wide, value)

    def test_do(self):
        live = Live(BARE, (0, 0))
        self.assertEqual([live.do(event) for event in TORN], [(), (), (), (), ("again",)])
        self.assertEqual((live.events, len(live)), (tuple(TORN), 5))
        self.assertEqual((live.played.scene, live.played.log, live.played.met), ((1, 2), ("book ok",), ((4, "again"),)))
        self.assertEqual(live.do(event="write"), ())

    def test_two_harms_by_one_event(self):
        system = made("m 3", "pay: m by 1; want: needs m 0, m to 0", "do pay/back", street="want")
        live = Live(system, (0,))
        rows = live.several(["next", "write", "street want", "next", "next"])
        self.assertEqual(rows, ((), (), (), (), ("left", "noticed")))
        live.undo()
        live.several(("next", "write", "street want", "next"))
        self.assertEqual(live.do("next"), ("left", "noticed"))

    def test_events_that_are_none(self):
        live = Live(BARE, (0, 0))
        for value in any_values() + ["Next", "over", "over 01", "late x", "street do", ["next"], ("next",)]:
            self.assert_refused(live.do, value, at=0, error=InvalidEvent)
        live.several(TORN)
        for value in any_values():
            self.assert_refused(live.do, value, at=5, error=InvalidEvent)
        self.assertEqual((live.events, len(live)), (tuple(TORN), 1))

    def test_refused(self):
        live = Live(BARE, (0, 0))
        ahead = state(live)
        for event in ("write", "over 1", "late 0", "street book", "over 9999"):
            self.assert_refused(live.do, event, at=0)
        self.assertEqual(state(live), ahead)
        live.do("next")
        self.assert_refused(live.do, "next", at=1)
        live.several(["write", "next"])
        self.assert_refused(live.do, "next", at=3)
        self.assertEqual((live.events, len(live)), (("next", "write", "next"), 2))

    def test_several(self):
        live = Live(BARE, (0, 0))
        self.assertEqual(live.several(TORN), ((), (), (), (), ("again",)))
        self.assertEqual(len(live), 1)
        self.assertEqual(live.several(events=("write", "next")), ((), ()))
        self.assertEqual(live.several([]), ())
        self.assertEqual(live.several(()), ())
        self.assertEqual((len(live), live.events), (4, tuple(TORN) + ("write", "next")))

    def test_several_or_none(self):
        live = Live(BARE, (0, 0))
        live.do("next")
        ahead = state(live)
        # The indexes are those in the sequence; what is possible is told by the stage as it is.
        for events, at in ((["next"], 0), (["write", "write"], 1), (["write", "next", "next"], 2), (["write", "over 0", "late 1"], 2),
                           (["write", "next", "write", "next", "next"], 4), (["late 0"], 0)):
            self.assert_refused(live.several, events, at=at)
            self.assertEqual(state(live), ahead)
        for events, at in ((["write", "x"], 1), (["next", "next", None], 2), (["Next"], 0), ("write", 0), (None, 0), ({"next": 1}, 0)):
            self.assert_refused(live.several, events, at=at, error=InvalidEvent)
        for value in any_values():
            if value not in ([], ()):
                self.assert_refused(live.several, value, at=0, error=InvalidEvent)
            self.assert_refused(live.several, ["write", value], at=1, error=InvalidEvent)
        self.assertEqual(state(live), ahead)
        live.several(["write", "over 0", "late 0"])
        self.assertEqual(live.played.pending, (("pay", 1, True),))

    def test_later_changes_of_what_was_passed(self):
        live, events = Live(BARE, (0, 0)), ["next", "write"]
        live.several(events)
        events.append("next")
        events[0] = "over 0"
        self.assertEqual(live.events, ("next", "write"))
        live.undo()
        self.assertEqual(live.events, ())

    def test_undo(self):
        live = Live(BARE, (0, 0))
        self.assertIs(live.undo(), False)
        first = state(live)
        live.do("next")
        second = state(live)
        live.several(["write", "next", "over 0"])
        third = state(live)
        live.several([])
        self.assertEqual(state(live), third[:2] + (3,) + third[3:])
        self.assertIs(live.undo(), True)
        self.assertEqual(state(live), third)
        self.assertIs(live.undo(), True)
        self.assertEqual(state(live), second)
        self.assertIs(live.undo(), True)
        self.assertEqual(state(live), first)
        self.assertIs(live.undo(), False)
        self.assertEqual(state(live), first)
        live.do("next")
        self.assertEqual(state(live), second)

    def test_what_was_told_stays(self):
        live = Live(BARE, (0, 0))
        live.do("next")
        played, events = live.played, live.events
        live.do("write")
        self.assertEqual((played.log, events), ((), ("next",)))
        live.undo()
        live.undo()
        self.assertEqual((played.scene, events), ((1, 0), ("next",)))

    def test_can(self):
        live = Live(NEWER.with_street(["pay", "free"]), (0, 0))
        self.assertEqual(live.can(), ("next", "over 0", "over 1", "street free", "street pay"))
        live.do("next")
        self.assertEqual(live.can(), ("over 0", "over 1", "street free", "street pay", "write"))
        live.several(["over 0", "over 0", "over 1"])
        self.assertEqual(live.can(), ("late 0", "late 1", "next", "over 1", "street free", "street pay"))
        live.do("late 1")
        self.assertEqual(live.can(), ("late 0", "next", "over 1", "street free", "street pay"))
        live = Live(KEYED, (0, 0))
        live.several(["over 0"] * 12)
        self.assertEqual(live.can(), tuple(sorted(["next", "over 0"] + ["late %d" % at for at in range(12)])))

    def test_can_when_all_is_over(self):
        live = Live(made("m 2", "pay: m by 1", "end"), (0,))
        live.do("next")
        self.assertEqual(live.can(), ("over 0",))

    def test_as_play_shows(self):
        for seed in range(150):
            system = random_system(seed)
            rng = random.Random(seed)
            start, edition, events = random_history(rng, system, 8)
            live, rest = Live(system, start, edition), list(events)
            while rest:
                size = rng.randrange(4)
                if size:
                    live.several(rest[:size])
                else:
                    live.do(rest[0])
                    size = 1
                rest = rest[size:]
            self.assertEqual(live.events, tuple(events))
            self.assert_plays(live, start, edition)
            while live.undo():
                self.assertEqual(live.events, tuple(events[:len(live.events)]))
                self.assertEqual(seen(live.played), seen(play(system, start, edition, live.events)))
            self.assertEqual(live.events, ())
            self.assert_plays(live, start, edition)


class WithinTest(unittest.TestCase):
    def setUp(self):
        self.live = Live(BARE, (0, 0))
        self.live.do("next")
        self.live.several(["write", "next"])
        self.ahead = state(self.live)

    def assert_as_before(self):
        self.assertEqual(state(self.live), self.ahead)

    def test_the_result(self):
        self.assertEqual(self.live.within(lambda live: (live is self.live, len(live))), (True, 2))
        self.assertIsNone(self.live.within(work=lambda live: None))
        self.assert_as_before()

    def test_a_work_that_changes(self):
        def work(live):
            live.do("over 0")
            live.several(["next", "write"])
            return live.played.met

        self.assertEqual(self.live.within(work), ((4, "again"),))
        self.assert_as_before()

    def test_a_work_that_takes_back(self):
        def work(live):
            return live.undo(), live.undo(), live.undo(), live.do("over 0"), live.events

        self.assertEqual(self.live.within(work), (True, True, False, (), ("over 0",)))
        self.assert_as_before()
        self.assertTrue(self.live.undo())
        self.assertEqual(self.live.events, ("next",))

    def test_a_work_that_raises(self):
        def work(live):
            live.undo()
            live.do("write")
            live.do("nothing")

        with self.assertRaises(InvalidEvent) as caught:
            self.live.within(work)
        self.assertEqual(caught.exception.at, 2)
        self.assert_as_before()
        for error in (KeyError, Refused, KeyboardInterrupt, SystemExit):
            def other(live):
                live.do("write")
                raise error(1)

            with self.assertRaises(error):
                self.live.within(other)
            self.assert_as_before()

    def test_a_work_that_calls_within(self):
        def inner(live):
            live.several(["next", "write"])
            return live.events

        def work(live):
            live.do("over 0")
            there = state(live)
            first = live.within(inner)
            self.assertEqual(state(live), there)
            with self.assertRaises(Refused):
                live.within(lambda other: (other.undo(), other.do("late 3")))
            self.assertEqual(state(live), there)
            return first

        self.assertEqual(self.live.within(work), ("next", "write", "next", "over 0", "next", "write"))
        self.assert_as_before()

    def test_it_goes_on_afterwards(self):
        self.live.within(lambda live: live.do("over 0"))
        self.assertEqual(self.live.do("write"), ())
        self.assertEqual(self.live.events, ("next", "write", "next", "write"))

    def test_not_iterable(self):
        for call in (iter, list, tuple):
            with self.assertRaises(TypeError):
                call(self.live)

    def test_properties_are_not_assigned(self):
        for name in ("system", "events", "played"):
            self.assertIsInstance(vars(Live)[name], property)
            with self.assertRaises(AttributeError):
                setattr(self.live, name, None)


if __name__ == "__main__":
    unittest.main()
