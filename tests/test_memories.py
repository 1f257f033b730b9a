import random
import unittest

from asneverbegun.errors import InvalidEvent, NoLine, Refused
from asneverbegun.harms import harms, sound
from asneverbegun.memories import (
    age_holds, age_paper, greatest_memory, late_ages, latest, least_memory, nearest, recall,
)
from asneverbegun.plans import do_lines
from asneverbegun.stage import Played, play
from asneverbegun.systems import System
from forgetful import Forgetful
from plainly import Plainly, harmful_ages, nearest_age
from samples import BARE, KEYED, made, random_system
from values import any_values

SLOW = ["next", "write", "over 0", "next", "write", "next", "late 0"]
ROUND = System.read(
    "cells m 3\nkeys word\nstart 0\nstreet -\ndeed pay: m by 1\nedition\ndo pay claim key\ncut k\ngo 0"
)
DEEDS = "pay: m by 1, tells m; rest: m back; none: nothing; put: m to 1; zero: m to 0; want: needs m 1, m to 2"


def tried(system, memory, rng, times, sizes):
    """What some history that is made by chance meets first with a memory; () if none of them meets a harm."""
    for _ in range(times):
        history = Forgetful(system, memory, rng.choice(system.starts), 0)
        for _ in range(rng.choice(sizes)):
            choices = history.can()
            choices += 3 * [event for event in choices if event in ("next", "write")]
            met = history.do(rng.choice(choices))
            if met:
                return tuple(sorted(met))
    return ()


class RecallTest(unittest.TestCase):
    def test_the_examples(self):
        self.assertEqual(recall(KEYED, 1, (0, 0), 0, SLOW).met, ((6, "again"),))
        self.assertEqual(recall(KEYED, 2, (0, 0), 0, SLOW).met, ())
        self.assertEqual(recall(KEYED, None, (0, 0), 0, SLOW).scene, (1, 1))
        self.assertIsInstance(recall(KEYED, 1, (0, 0), 0, SLOW), Played)

    def test_the_memory_and_one_less_and_one_more(self):
        for size in range(4):
            # The late deed comes when its place has this age.
            plan = "do pay key" + "/do none" * size
            system = made("m 3", DEEDS, plan)
            events = ["over 0"] + ["next", "write"] * size + ["late 0"]
            for memory in range(6):
                met = recall(system, memory, (0,), 0, events).met
                self.assertEqual(met, ((len(events) - 1, "again"),) if memory < size else (), (size, memory))
            self.assertEqual(recall(system, None, (0,), 0, events).met, ())

    def test_a_memory_of_none_at_all(self):
        # As long as a place has no entry its age is 0, so that a lost answer is told again.
        system = made("m 3", DEEDS, "do pay key")
        events = ["next", "over 0", "next", "write"]
        self.assertEqual(recall(system, 0, (0,), 0, events).scene, (1,))
        self.assertEqual(recall(system, 0, (0,), 0, events[:1] + ["over 0", "over 0", "late 0"]).met, ())

    def test_open_entries_do_not_count(self):
        system = made("m 3", DEEDS, "do pay key/do none ahead")
        events = ["over 0", "next", "write", "next", "late 0"]
        self.assertEqual(recall(system, 1, (0,), 0, events).met, ())
        self.assertEqual(recall(system, 0, (0,), 0, events).met, ((4, "again"),))
        opened = made("m 3", DEEDS, "do pay ahead key")
        self.assertEqual(recall(opened, 0, (0,), 0, ["next", "next", "over 0", "next", "write"]).scene, (1,))

    def test_a_cut_counts_once(self):
        system = made("m 3", DEEDS, "do pay key/cut k/do none")
        events = ["over 0", "next", "write", "next", "late 0"]
        self.assertEqual(recall(system, 2, (0,), 0, events).met, ())
        self.assertEqual(recall(system, 1, (0,), 0, events).met, ((4, "again"),))
        events = ["over 0", "next", "write", "next", "next", "write", "late 0"]
        self.assertEqual(recall(system, 3, (0,), 0, events).met, ())
        self.assertEqual(recall(system, 2, (0,), 0, events).met, ((6, "again"),))

    def test_what_is_done_anew_is_remembered_by_its_own_place(self):
        # Two late deeds for the first place: both are forgotten at once.
        system = made("m 3", DEEDS, "do pay key/do none")
        events = ["over 0", "over 0", "next", "write", "late 0", "late 1"]
        self.assertEqual(recall(system, 0, (0,), 0, events).met, ((4, "again"), (5, "again")))
        self.assertEqual(recall(system, 1, (0,), 0, events).met, ())

    def test_keys_that_come_again_behind_a_cut(self):
        events = ["next", "write", "next", "next", "write", "next", "next"]
        self.assertEqual(recall(ROUND, None, (0,), 0, events).met, ((6, "stale"),))
        self.assertEqual(recall(ROUND, 2, (0,), 0, events).met, ((6, "stale"),))
        self.assertEqual(recall(ROUND, 1, (0,), 0, events).met, ())
        self.assertEqual(recall(ROUND, 1, (0,), 0, events).scene, (0,))

    def test_what_play_returns(self):
        for events in (SLOW, [], ["next"], ["next", "over 0", "next"]):
            for memory in (None, 40):
                seen, wanted = recall(BARE, memory, (0, 0), 0, events), play(BARE, (0, 0), 0, events)
                for word in ("scene", "shade", "log", "cuts", "host", "pending", "met"):
                    self.assertEqual(getattr(seen, word), getattr(wanted, word))
        self.assertEqual(recall(events=["next"], edition=0, start=(0, 0), memory=3, system=BARE).scene, (1, 0))

    def test_errors(self):
        for memory in (0, 3, None):
            for value in any_values():
                if value not in ([], ()):
                    with self.assertRaises(InvalidEvent) as caught:
                        recall(KEYED, memory, (0, 0), 0, value)
                    self.assertEqual(caught.exception.at, 0)
                with self.assertRaises(InvalidEvent) as caught:
                    recall(KEYED, memory, (0, 0), 0, ["next", value])
                self.assertEqual(caught.exception.at, 1)
            for events, at in ((["next", "next"], 1), (["write"], 0), (["late 0"], 0), (["over 0", "late 0", "late 0"], 2)):
                with self.assertRaises(Refused) as caught:
                    recall(KEYED, memory, (0, 0), 0, events)
                self.assertEqual(caught.exception.at, at)

    def test_random_histories(self):
        others = 0
        for seed in range(400):
            rng = random.Random(seed)
            system = random_system(seed, gears=rng.choice([None, {"key": 0.8}]))
            memory, start = rng.choice([0, 0, 1, 1, 2, 3, None]), rng.choice(system.starts)
            edition, events = rng.randrange(len(system.editions)), []
            history = Forgetful(system, memory, start, edition)
            for _ in range(rng.choice([10, 25])):
                choices = history.can()
                choices += 3 * [event for event in choices if event in ("next", "write")]
                choices += 2 * [event for event in choices if event.startswith("late")]
                if not choices:
                    break
                events.append(rng.choice(choices))
                if "stale" in history.do(events[-1]):
                    break
            seen, state = recall(system, memory, start, edition, events), history.state
            self.assertEqual((seen.scene, seen.shade, seen.log, seen.cuts, seen.host[2]),
                             (state.scene, state.shade, state.log, state.cuts, state.held))
            self.assertEqual(seen.met, tuple(history.met), (str(system), memory, events))
            try:
                others += play(system, start, edition, events).met != seen.met
            except Refused:
                others += 1
        self.assertGreater(others, 3)


class LateAgesTest(unittest.TestCase):
    def check(self, system, at, ages, greatest):
        """The ages up to 9, and the greatest of all."""
        self.assertEqual(late_ages(system, at, 9), tuple(ages))
        self.assertEqual(latest(system, at), greatest)
        for most in range(9):
            self.assertEqual(late_ages(system, at, most), tuple(age for age in ages if age <= most))

    def test_the_examples(self):
        self.assertEqual((late_ages(KEYED, 0, 9), late_ages(KEYED, 1, 9), latest(KEYED, 1), least_memory(KEYED)),
                         ((), (1, 2), 2, 2))

    def test_until_the_end(self):
        self.check(made("m 3", DEEDS, "do pay"), 0, (1, 2), 2)
        self.check(made("m 3", DEEDS, "do pay/do none/sure"), 0, (1, 2, 3, 4), 4)
        self.check(made("m 3", DEEDS, "do none/do pay"), 0, (), 0)
        self.check(made("m 3", DEEDS, "do put"), 0, (), 0)

    def test_a_moment_between_asking_and_writing(self):
        # `zero` is done, but not yet written: the age of the first place is still 1.
        self.check(made("m 3", DEEDS, "do put/do zero"), 0, (1, 2, 3), 3)
        self.check(made("m 3", DEEDS, "do put/do zero/do put"), 0, (1, 2), 2)
        self.check(made("m 3", DEEDS, "do put/do none/do zero"), 0, (2, 3, 4), 4)

    def test_the_street(self):
        self.check(made("m 3", DEEDS, "do put/do none", street="zero"), 0, (1, 2, 3), 3)
        self.check(made("m 3", DEEDS, "do want", street="put"), 0, (1, 2), 2)
        self.check(made("m 3", DEEDS, "do want"), 0, (), 0)

    def test_a_street_that_goes_far(self):
        # Only behind `set` the street goes on, deed by deed, until the first deed would change something.
        deeds = "last: needs m 2, m to 0; set: b to 1; one: needs b 1, needs m 0, m to 1; two: needs b 1, needs m 1, m to 2"
        self.check(made("m 3, b 2", deeds, "do last/do set", street="one two"), 0, (1, 2, 3), 3)
        self.check(made("m 3, b 2", deeds, "do last/do set", street="two"), 0, (), 0)

    def test_opposites(self):
        self.check(made("m 3", DEEDS, "do put undo zero/back"), 0, (2, 3, 4), 4)
        self.check(made("m 3", DEEDS, "do none undo put/back"), 0, (), 0)
        self.check(made("m 3", DEEDS, "do put undo none/do want undo put/back"), 1, (2, 3, 4, 5), 5)
        # With the value that was told: done once more it is 0 again, and so it stays.
        self.check(made("m 3", DEEDS, "do zero undo none/do pay undo rest/back"), 1, (1, 2, 3, 4, 5), 5)
        self.check(made("m 3", DEEDS, "do pay undo rest/back/end", starts=["0", "2"]), 0, (1, 2, 3, 4), 4)

    def test_no_greatest_one(self):
        self.check(made("m 3", DEEDS, "do pay/cut k/go 0"), 0, range(1, 10), None)
        self.check(made("m 3", DEEDS, "do pay/cut k/go 1"), 0, range(1, 10), None)
        self.check(made("m 3", DEEDS, "do put/cut k/go 1"), 0, (), 0)
        self.check(made("m 3", DEEDS, "do none/cut k/go 0", street="pay"), 0, (), 0)
        # Only each second log is harmful.
        system = made("m 2, a 2", "flip: a by 1; put: m to 1; clr: needs a 0, m to 0", "do put/do flip/do clr/cut k/go 0")
        self.assertEqual(latest(system, 0), None)
        self.assertEqual(late_ages(system, 0, 14), harmful_ages(Plainly(system, 0), 0, 14))
        self.assertLess(len(late_ages(system, 0, 40)), 39)
        # It is harmful in the first log alone.
        system = made("m 3", "want: needs m 0, m to 1; put: m to 2", "do want/do put/cut k/do want", starts=["0"])
        self.check(system, 0, (), 0)
        system = made("m 3", "want: needs m 1, m to 0; put: m to 1; none: nothing; two: m to 2",
                      "do want/do put/cut k/do two/cut l/do none/go 4")
        self.check(system, 0, (1, 2, 3), 3)

    def test_gears_make_no_difference(self):
        for gear in ("", " ahead", " claim", " ahead claim key"):
            self.check(made("m 3", DEEDS, "do pay%s/do none%s" % (gear, gear)), 0, (1, 2, 3), 3)

    def test_no_line(self):
        system = made("m 3", DEEDS, "do pay/cut k/do none")
        calls = [lambda at: late_ages(system, at, 3), lambda at: latest(system, at), lambda at: age_paper(system, at, 2),
                 lambda at: age_holds(system, at, 2, ())]
        for value in any_values() + [3, -1, -2, 100]:
            if isinstance(value, int) and not isinstance(value, bool) and value in (0, 2):
                continue
            for call in calls:
                with self.assertRaises(NoLine) as caught:
                    call(value)
                self.assertIs(caught.exception.at, value)

    def test_random_systems(self):
        found = set()
        for seed in range(200):
            system = random_system(seed, editions=1)
            plainly = Plainly(system, 0, 100)
            if plainly.is_whole:
                for at in do_lines(system.editions[0]):
                    self.assertEqual(late_ages(system, at, 10), harmful_ages(plainly, at, 10), str(system))
                    ages, greatest = late_ages(system, at, 40), latest(system, at)
                    found.add(greatest)
                    if greatest is None:
                        self.assertGreater(max(ages), 30)
                    else:
                        self.assertEqual(max(ages, default=0), greatest, str(system))
        self.assertTrue(found >= {None, 0, 2, 4, 5})


class LeastMemoryTest(unittest.TestCase):
    def test_least_memory(self):
        self.assertEqual(least_memory(made("m 3", DEEDS, "do pay key/do none")), 3)
        self.assertEqual(least_memory(made("m 3", DEEDS, "do pay claim key/do none")), 0)
        self.assertEqual(least_memory(made("m 3", DEEDS, "do pay/do none")), 0)
        self.assertEqual(least_memory(made("m 3", DEEDS, "do pay key/do pay key/do none")), 4)
        self.assertEqual(least_memory(made("m 3", DEEDS, "do none/do pay key/cut k/do put key")), 4)
        self.assertIsNone(least_memory(made("m 3", DEEDS, "do pay key/cut k/go 0")))
        self.assertIsNone(least_memory(made("m 3", DEEDS, "do pay key/cut k/do none/go 1")))
        self.assertEqual(least_memory(made("m 3", DEEDS, "do pay claim key/cut k/go 0")), 0)

    def test_what_is_less_is_not_enough(self):
        seen = 0
        for seed in range(500):
            rng = random.Random(seed)
            system = random_system(seed, editions=1, tags=["cut", "word"], size=2, gears={"key": 0.9, "claim": 0.2})
            if not sound(system):
                continue
            memory = least_memory(system)
            self.assertEqual(tried(system, memory, rng, 4, [10, 20]), (), str(system))
            if memory is not None and 1 <= memory < 4:
                seen += tried(system, memory - 1, rng, 200, [10, 15]) != ()
        self.assertGreater(seen, 4)


class NearestTest(unittest.TestCase):
    def test_the_examples(self):
        self.assertEqual((nearest(ROUND), greatest_memory(ROUND), latest(ROUND, 0)), (2, 1, None))
        self.assertEqual(least_memory(ROUND.with_tags(["cut", "word"])), 0)

    def check(self, plan, wanted, keys="word", street="-"):
        deeds = "; low: m by 2; two: needs m 2, m to 0; up: m by 1"
        system = made("m 3", DEEDS + deeds, plan, keys=keys, street=street)
        self.assertEqual(nearest(system), wanted)
        self.assertEqual(greatest_memory(system), None if wanted is None else wanted - 1)

    def test_nearest(self):
        self.check("do pay key/cut k/do pay key", None)
        self.check("do none/do pay key/cut k/do pay key", 2)
        self.check("do none/do pay key/do none/cut k/do pay key", 3)
        self.check("do none/do pay key/cut k/do pay", None)
        self.check("do none/do pay/cut k/do pay key", None)
        self.check("do pay key", None)
        self.check("do none/do pay ahead key/do none ahead/cut k/do pay ahead claim key", 3)

    def test_the_word(self):
        self.check("do none/do pay key/cut k/do none key", None)
        self.check("do none/do pay key/cut k/do none key", 2, keys="-")
        self.check("do none/do pay key/cut k/do none key/cut l/do pay key", 4)
        self.check("do none/do pay key/cut k/do none/do none/cut l/do pay key", 5, keys="-")

    def test_opposites(self):
        self.check("do none undo zero key/back", None, keys="-")
        # The place 3 is that of `undo zero` in the last log, and of `low` in the first one.
        self.check("do none/sure/sure/do low key/cut k/do none undo zero key/back", 4, keys="-")
        self.check("do none/sure/sure/do low key/cut k/do none undo zero key/back", None)
        self.check("do none/sure/sure/do low/cut k/do none undo zero key/back", None, keys="-")
        # An opposite that gets other values back is another word.
        self.check("do none/do pay undo rest key/cut k/do pay undo rest key/cut l/go 3", 2)

    def test_the_street(self):
        self.check("do want else 4/do pay key/cut k/do pay key", None)
        self.check("do want else 4/do pay key/cut k/do pay key", 2, street="up")
        self.check("do none/do put key/do two else 5/cut k/do put key", None)
        self.check("do none/do put key/do two else 5/cut k/do put key", 3, street="up")

    def test_the_least_of_all(self):
        self.check("do none/do pay key/do none/cut k/do pay key/cut l/do pay key", 2)
        self.check("do none/do pay key/do none/do none/cut k/do none/cut l/do pay key", 6)

    def test_random_systems(self):
        found = set()
        for seed in range(300):
            rng = random.Random(seed)
            system = random_system(seed, editions=1, style=rng.choice(["any", "ring"]), gears={"key": 0.7},
                                   tags=rng.choice([[], ["word"]]))
            plainly = Plainly(system, 0, 60)
            if plainly.is_whole:
                found.add(nearest(system))
                self.assertEqual(nearest(system), nearest_age(system, plainly, 20), str(system))
        self.assertTrue(found >= {None, 2, 3, 4})

    def test_stale_from_just_there_on(self):
        seen = 0
        for seed in range(500):
            rng = random.Random(seed)
            system = random_system(seed, editions=1, tags=["cut", "word"], style="ring", gears={"key": 1, "claim": 1})
            if sound(system):
                for tags in ([], ["word"]):
                    short = system.with_tags(tags)
                    age = nearest(short)
                    self.assertEqual(harms(short), () if age is None else ("stale",), str(short))
                    self.assertEqual(tried(short, greatest_memory(short), rng, 3, [10, 20]), ())
                    if age is not None and age < 4:
                        seen += tried(short, age, rng, 40, [20]) == ("stale",)
        self.assertGreater(seen, 10)


class AgePaperTest(unittest.TestCase):
    def setUp(self):
        self.system = made("m 3", DEEDS, "do pay undo rest ahead/back", street="none")
        self.paper = age_paper(self.system, 0, 5)

    def holds(self, *rows, at=0, memory=5):
        return age_holds(self.system, at, memory, rows)

    def test_the_examples(self):
        self.assertIs(age_holds(KEYED, 1, 2, age_paper(KEYED, 1, 2)), True)
        self.assertIsNone(age_paper(KEYED, 1, 1))
        self.assertIs(age_holds(KEYED, 0, 0, ()), False)

    def test_what_comes_about(self):
        stack, gone = ((0, "rest", "ok 0"),), (-1, True, False, ())
        wanted = {
            ((1,), (1, False, False, stack), "pay", None, 1), ((1,), (1, True, False, stack), "pay", None, 2),
            ((1,), (1, True, True, stack), "pay", None, 2), ((0,), (1, True, False, ()), "pay", None, 3),
            ((0,), gone, "pay", None, 4), ((0,), (1, True, False, ()), "undo rest", "ok 0", 1),
            ((0,), gone, "undo rest", "ok 0", 2),
        }
        self.assertEqual(set(self.paper), wanted)
        self.assertEqual(latest(self.system, 0), 4)
        for memory in range(4):
            self.assertIsNone(age_paper(self.system, 0, memory))
        self.assertEqual(set(age_paper(self.system, 0, 4)), wanted)

    def test_left_out_put_in_and_otherwise(self):
        self.assertIs(self.holds(*self.paper), True)
        self.assertIs(self.holds(*self.paper[::-1], *self.paper), True)
        for row in self.paper:
            self.assertIs(self.holds(*[other for other in self.paper if other != row]), False, row)
        gone = (-1, True, False, ())
        # What does not come about must be led on, too, and not be harmful at the greatest age.
        self.assertIs(self.holds(*self.paper, ((2,), gone, "pay", None, 5)), True)
        self.assertIs(self.holds(*self.paper, ((2,), gone, "pay", None, 6)), False)
        self.assertIs(self.holds(*self.paper, ((2,), gone, "undo rest", "ok 2", 6)), True)
        self.assertIs(self.holds(*self.paper, ((2,), gone, "undo rest", "ok 2", 7)), False)
        self.assertIs(self.holds(*self.paper, ((2,), gone, "undo rest", "ok 1", 6)), False)
        end = ((2,), (2, False, False, ()), "pay", None, 4)
        self.assertIs(self.holds(*self.paper, end), False)
        self.assertIs(self.holds(*self.paper, end, ((2,), (-1, False, False, ()), "pay", None, 5)), True)
        self.assertIs(self.holds(), False)
        self.assertIs(age_holds(self.system, 0, 3, self.paper), False)

    def test_the_greatest_age_stays(self):
        system = made("m 3", DEEDS, "do put undo none/cut k/do none/go 1")
        paper = age_paper(system, 0, 2)
        self.assertEqual({row[4] for row in paper}, {1, 2, 3})
        self.assertIs(age_holds(system, 0, 2, paper), True)
        self.assertIs(age_holds(system, 0, 3, paper), False)
        for row in paper:
            self.assertIs(age_holds(system, 0, 2, tuple(other for other in paper if other != row)), False)
        none = age_paper(system, 0, 0)
        self.assertEqual({row[4] for row in none}, {1})
        self.assertIs(age_holds(system, 0, 0, none), True)

    def test_a_line_that_is_never_asked(self):
        system = made("m 3", DEEDS, "go 2/do pay/end")
        self.assertEqual((age_paper(system, 1, 0), latest(system, 1)), ((), 0))
        self.assertIs(age_holds(system, 1, 0, ()), True)

    def test_forms(self):
        gone = (-1, True, False, ())
        self.assertTrue(self.holds(*self.paper, ((2,), gone, "pay", None, 5)))
        for row in (((2,), gone, "pay", "ok 2", 5), ((2,), gone, "undo rest", None, 5), ((2,), gone, "rest", None, 5),
                    ((2,), gone, "undo pay", "ok 2", 5), ((2,), gone, "undo rest", "ok", 5), ((2,), gone, "pay", None, 0),
                    ((2,), gone, "undo rest", "ok 3", 5), ((2,), gone, "pay", None, True), ((2,), gone, "pay", None, 7),
                    ((3,), gone, "pay", None, 5), ((2,), (-1, True, True, ()), "pay", None, 5), ((2,), gone, "pay", None),
                    [(2,), gone, "pay", None, 5], ((2,), gone, "undo rest", "no", 5), ((True,), gone, "pay", None, 5),
                    ((2,), (0, True, False, ()), "pay", None, 5), ((2,), gone, "pay", None, 5, 5)):
            self.assertIs(self.holds(*self.paper, row), False, row)
        self.assertIs(age_holds(self.system, 0, 5, list(self.paper)), False)
        # An opposite is asked only by a line that has one.
        bare = made("m 3", DEEDS, "do none")
        paper = age_paper(bare, 0, 2)
        self.assertIs(age_holds(bare, 0, 2, paper + (((0,), gone, "none", None, 1),)), True)
        self.assertIs(age_holds(bare, 0, 2, paper + (((0,), gone, "undo none", "ok", 1),)), False)

    def test_any_values(self):
        for value in any_values():
            self.assertIs(age_holds(self.system, 0, 5, value), False)
            self.assertIs(self.holds(*self.paper, value), False)
            for at in range(5):
                row = [(2,), (-1, True, False, ()), "pay", None, 2]
                row[at] = value
                fits = at == 0 and repr(value) in ("(0,)", "(1,)") or at == 3 and value is None
                fits = fits or at == 4 and value == 1 and not isinstance(value, bool)
                self.assertIs(self.holds(*self.paper, tuple(row)), fits, row)

    def test_by_keywords(self):
        paper = age_paper(memory=2, at=1, system=KEYED)
        self.assertIs(age_holds(value=paper, memory=2, at=1, system=KEYED), True)
        self.assertEqual(late_ages(most=1, at=1, system=KEYED), (1,))

    def test_there_is_one_just_if_the_memory_is_enough(self):
        for seed in range(200):
            system = random_system(seed, editions=1)
            for at in do_lines(system.editions[0]):
                greatest = latest(system, at)
                for memory in (0, 1, 2, 3, 5):
                    paper = age_paper(system, at, memory)
                    self.assertEqual(paper is not None, greatest is not None and greatest <= memory, str(system))
                    if paper is not None:
                        self.assertIs(age_holds(system, at, memory, paper), True)


if __name__ == "__main__":
    unittest.main()
