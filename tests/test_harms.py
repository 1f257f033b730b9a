import unittest

from asneverbegun.errors import InvalidHarm
from asneverbegun.events import HARMS
from asneverbegun.harms import happens, harms, meets, sound, story
from asneverbegun.stage import play
from naive import first_harms
from samples import BARE, KEYED, LIGHT, NEWER, ONE, OTHER, PAY, SET, made, random_system
from values import any_values


class HarmsTest(unittest.TestCase):
    def check_story(self, system, harm):
        """A story plays to its end, and meets its harm there and none ahead."""
        told = story(system, harm)
        start, edition, events = told
        self.assertIsInstance(told, tuple)
        self.assertIsInstance(events, tuple)
        self.assertIn(start, system.starts)
        self.assertIn(edition, range(len(system.editions)))
        seen = play(system, start, edition, events)
        self.assertEqual({at for at, _ in seen.met}, {len(events) - 1})
        self.assertIn(harm, [word for _, word in seen.met])

    def check(self, system, **wanted):
        """Just the wanted harms happen, with these kinds of events."""
        self.assertEqual(harms(system), tuple(sorted(wanted)))
        self.assertEqual(sound(system), not wanted)
        for harm in HARMS:
            self.assertEqual(happens(system, harm), harm in wanted)
            self.assertEqual(meets(system, harm), wanted.get(harm, ()), harm)
            if harm in wanted:
                self.check_story(system, harm)
            else:
                self.assertIsNone(story(system, harm))

    def test_the_examples(self):
        self.assertEqual((harms(BARE), harms(KEYED), sound(KEYED)), (("again", "unlike"), (), True))
        self.assertEqual(meets(BARE, "again"), (("late",), ("lost",)))
        self.assertEqual(play(BARE, *story(BARE, "unlike")).met[-1][1], "unlike")
        self.assertIsNone(story(KEYED, "again"))
        self.assertEqual(meets(BARE, "unlike"), (("late",), ("lost",)))
        self.assertIs(happens(BARE, "left"), False)
        self.assertEqual((harms(NEWER), meets(NEWER, "loose")),
                         (("astray", "loose"), (("late", "newer"), ("lost", "newer"))))

    def test_sound_systems(self):
        for sound_one in (KEYED, ONE, made("m 3", "pay: m by 1", "end"), made("m 3", "pay: nothing", "do pay")):
            self.check(sound_one)

    def test_again_and_unlike(self):
        torn = (("late",), ("lost",))
        self.check(BARE, again=torn, unlike=torn)
        self.check(PAY, again=torn)
        self.check(SET.with_street([]), unlike=torn)
        both = (("late", "street"), ("lost", "street"))
        self.check(SET, unlike=torn, again=both)
        deeds = "put: a to 1; clr: a to 0"
        self.check(made("a 2", deeds, "do put", street="clr"), again=both)
        self.check(made("a 2", deeds, "do put", street="clr", starts=["1"]), again=both, unlike=(("late", "street"),))

    def test_claims_leave_what_is_lost(self):
        self.check(made("m 3", "pay: m by 1", "do pay claim"), again=(("lost",),))
        self.check(made("m 3", "pay: m by 1", "do pay claim key"))

    def test_light_opposites_come_late(self):
        self.check(LIGHT, again=(("late",),))

    def test_loose_and_newer_editions(self):
        torn = (("late", "newer"), ("lost", "newer"))
        for line in ("sure", "cut k", "back", "end"):
            self.check(made("a 2", OTHER, "do put key", line), loose=torn, astray=(("newer",),))
        self.check(made("a 2", OTHER, "do put key", "do none key"), unlike=torn, astray=(("newer",),))

    def test_open_entries_tell_what_they_would_hide(self):
        self.check(made("a 2", OTHER, "do put ahead claim key", "do none ahead claim key"), astray=(("newer",),))
        self.check(made("a 2", OTHER, "do put ahead claim key", "do put claim key"), astray=(("newer",),))
        self.check(made("a 2", OTHER, "do put ahead claim key", "do put ahead claim key"))

    def test_stale(self):
        ring = made("m 3", "pay: m by 1", "do pay key/cut k/go 0", keys="word")
        self.check(ring, stale=((),))
        self.check(ring.with_tags(["cut", "word"]))
        self.check(ring.with_tags(["cut"]))
        self.check(ring.with_tags([]), stale=((),))
        torn = (("late", "newer"), ("lost", "newer"))
        two = made("a 2", "none: nothing; nil: nothing", "do none key", "do nil key", keys="cut")
        self.check(two, stale=torn, astray=(("newer",),))
        self.check(two.with_tags(["word"]), astray=(("newer",),))

    def test_stale_by_what_an_elder_log_never_told(self):
        # What the elder edition asked is remembered, though the newer one wrote another deed there.
        deeds = "nil: nothing; none: nothing"
        plan = made("m 2", deeds, "cut k/do nil key", "cut k/do none/cut l/do nil key", keys="word")
        self.check(plan, stale=(("late", "newer"), ("lost", "newer")), astray=(("newer",),))
        self.check(plan.with_tags(["cut"]), astray=(("newer",),))
        plan = made("m 2", deeds, "cut k/do nil key/cut l/do nil", "cut k/do nil/cut l/do nil key", keys="word")
        self.check(plan, stale=(("newer",),))

    def test_stuck_left_noticed(self):
        self.check(made("a 2", "put: a to 1; clr: needs a 0", "do put undo clr key/back"), stuck=((),))
        self.check(made("a 2", "put: a to 1", "do put key/back"), left=((),))
        self.check(made("a 2", "put: a to 1", "do put key/sure/back"))
        plan = made("a 2", "put: a to 1; clr: a to 0; look: tells a", "do put undo clr key/back", street="look")
        self.check(plan, noticed=(("street",),))
        plan = made("m 3", "put: m to 1; clr: needs m 1, m to 0; pay: m by 1", "do put undo clr key/back", street="pay")
        self.check(plan, stuck=(("street",),), left=(("street",),))

    def test_harms_behind_others_do_not_count(self):
        # The work is left only behind an opposite that was answered no.
        plan = made("a 2", "put: a to 1; clr: needs a 0", "do put undo clr key/back")
        self.assertEqual(play(plan, (0,), 0, ["next", "write", "next", "next", "write", "next"]).met,
                         ((4, "stuck"), (5, "left")))
        self.check(plan, stuck=((),))

    def test_several_harms_by_one_event_all_count(self):
        # The answer no is unlike what the lost doing told, so the work is stuck by the same event.
        plan = made("a 3", "put: a to 1; clr: needs a 1, a to 0", "do put undo clr/back")
        self.assertIn("stuck", harms(plan))
        self.assertEqual(meets(plan, "stuck"), (("late",), ("lost",)))
        self.check_story(plan, "stuck")
        plan = made("m 4", "pay: m by 1", "do pay undo pay/back", "do pay/back")
        self.assertIn("left", harms(plan))

    def test_starts_and_editions_at_first(self):
        plan = made("a 2", "put: needs a 1, a to 0", "end", "do put", starts=["0", "1"])
        self.check(plan, unlike=(("late",), ("lost",)), astray=(("newer",),))
        self.assertEqual(story(plan, "unlike")[0], (1,))
        self.check(made("a 2", "put: needs a 1, a to 0", "end", "do put"), astray=(("newer",),))

    def test_cuts(self):
        plan = made("m 2", "pay: m by 1", "cut k/do pay/cut l/do pay key")
        self.check(plan, again=(("late",), ("lost",)))
        plan = made("m 2, a 2", "pay: m by 1; put: a to 1", "do put/sure/cut k/do pay key")
        self.check(plan)

    def test_no_harm(self):
        for value in any_values() + ["Again", "late", "again "]:
            for function in (happens, story, meets):
                with self.assertRaises(InvalidHarm):
                    function(BARE, value)

    def test_by_parameter_names(self):
        self.assertTrue(happens(harm="again", system=BARE))
        self.assertEqual(harms(system=BARE), ("again", "unlike"))
        self.assertFalse(sound(system=BARE))
        self.assertEqual(len(story(harm="again", system=BARE)), 3)
        self.assertEqual(len(meets(harm="again", system=BARE)), 2)

    def test_the_same_call_returns_an_equal_result(self):
        for seed in range(20):
            one = random_system(seed)
            self.assertEqual([story(one, harm) for harm in HARMS], [story(one, harm) for harm in HARMS])


class NaiveTest(unittest.TestCase):
    """What is decided for all histories, against a walk through all short ones."""

    def check(self, system, depth, most):
        found, is_whole = first_harms(system, depth, most)
        mine = {harm: [frozenset(lot) for lot in meets(system, harm)] for harm in harms(system)}
        for harm, rows in found.items():
            self.assertIn(harm, mine, str(system))
            for kinds in rows:
                self.assertTrue(any(lot <= kinds for lot in mine[harm]), (harm, kinds, str(system)))
        for harm in mine:
            start, edition, events = story(system, harm)
            seen = play(system, start, edition, events)
            self.assertEqual({at for at, _ in seen.met}, {len(events) - 1}, str(system))
            self.assertIn((len(events) - 1, harm), seen.met, str(system))
            if is_whole and len(events) <= depth:
                self.assertIn(harm, found, str(system))

    def test_systems_of_all_kinds(self):
        for seed in range(300):
            self.check(random_system(seed), 9, 20000)

    def test_rings_whose_keys_do_not_tell_the_cut(self):
        gears = {"key": 0.7, "claim": 0.2, "ahead": 0.2}
        for seed in range(60):
            tags = [[], ["word"]][seed % 2]
            self.check(random_system(10000 + seed, style="ring", tags=tags, gears=gears), 11, 20000)

    def test_editions_whose_keys_do_not_tell_the_word(self):
        gears = {"key": 0.7, "claim": 0.2, "ahead": 0.3}
        for seed in range(60):
            self.check(random_system(20000 + seed, editions=2, tags=["cut"], gears=gears), 10, 20000)


if __name__ == "__main__":
    unittest.main()
