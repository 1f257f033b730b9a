import unittest
from itertools import combinations

from asneverbegun.errors import InvalidHarm, Refused
from asneverbegun.events import HARMS
from asneverbegun.harms import harms, story
from asneverbegun.mending import changed, changes, hits, mends
from asneverbegun.plans import do_lines
from asneverbegun.stage import play
from samples import BARE, KEYED, LIGHT, NEWER, PAY, SET, TEXT, made, random_system
from values import any_values


class ChangesTest(unittest.TestCase):
    def test_changes(self):
        self.assertEqual(changes(BARE), tuple(("gear", 0, at, word) for at in (0, 1) for word in ("ahead", "claim", "key")))
        self.assertEqual(changes(KEYED), tuple(("gear", 0, at, word) for at in (0, 1) for word in ("ahead", "claim")))
        system = made("m 3", "pay: m by 1; none: nothing", "do pay ahead claim key", "cut k/do pay claim",
                      street="none pay", keys="-")
        self.assertEqual(changes(system), (("gear", 1, 1, "ahead"), ("gear", 1, 1, "key"), ("key", "cut"), ("key", "word"),
                                           ("street", "none"), ("street", "pay")))
        self.assertEqual(changes(system.with_tags(["word"])), changes(system)[:3] + changes(system)[4:])
        self.assertEqual(changes(made("m 3", "pay: m by 1", "end")), ())

    def test_changed(self):
        system = made("m 3", "pay: m by 1; none: nothing", "do pay ahead/end", "do pay", street="none pay", keys="word")
        self.assertEqual(changed(system, ()), system)
        self.assertEqual(changed(system, (("street", "none"),)).street, ("pay",))
        self.assertEqual(changed(system, (("key", "cut"),)).tags, ("cut", "word"))
        mended = changed(system, (("gear", 0, 0, "key"),))
        self.assertEqual([plan.lines for plan in mended.editions], [("do pay ahead key", "end"), ("do pay",)])
        mended = changed(system, (("gear", 0, 0, "claim"), ("gear", 0, 0, "key"), ("gear", 1, 0, "ahead"),
                                  ("key", "cut"), ("street", "none"), ("street", "pay")))
        self.assertEqual([plan.lines for plan in mended.editions], [("do pay ahead claim key", "end"), ("do pay ahead",)])
        self.assertEqual((mended.street, mended.tags, mended.starts), ((), ("cut", "word"), system.starts))
        self.assertEqual(system.editions[0].lines, ("do pay ahead", "end"))
        self.assertEqual(changed(lot=[("street", "none")], system=system), system.with_street(["pay"]))

    def test_nothing_is_left_if_all_is_changed(self):
        for seed in range(100):
            system = random_system(seed)
            found = changes(system)
            self.assertEqual(list(found), sorted(set(found)))
            self.assertEqual(changes(changed(system, found)), ())
            for change in found:
                rest = changes(changed(system, (change,)))
                self.assertEqual(rest, tuple(row for row in found if row != change))


class MendsTest(unittest.TestCase):
    def test_the_examples(self):
        self.assertEqual(mends(BARE, ["again"]), ((("gear", 0, 1, "key"),),))
        self.assertEqual(mends(BARE, ["again", "unlike"]), ((("gear", 0, 0, "key"), ("gear", 0, 1, "key")),))
        self.assertEqual(mends(KEYED, ["left"]), ((),))

    def test_lots_of_no_change_of_one_and_of_two(self):
        self.assertEqual(mends(LIGHT, ("again",)), ((("gear", 0, 0, "claim"),), (("gear", 0, 0, "key"),)))
        self.assertEqual(mends(SET, ("again", "unlike")), ((("gear", 0, 0, "key"),),))
        self.assertEqual(mends(SET, ("again",)), ((("gear", 0, 0, "key"),), (("street", "clr"),)))
        # Three lines want a key each: two changes are not enough.
        three = made("m 3", "pay: m by 1", "do pay/do pay/do pay")
        self.assertEqual(mends(three, ["again"]), ())
        self.assertEqual(mends(three, ["left", "stuck"]), ((),))
        # A key is needed in any case; that of the other line, or a claim there, too.
        both = made("m 3, a 2", "pay: m by 1; set: a to 1; clr: a to 0", "do pay/do set undo clr/back")
        self.assertEqual(mends(both, ["again"]), ((("gear", 0, 0, "key"), ("gear", 0, 1, "claim")),
                                                  (("gear", 0, 0, "key"), ("gear", 0, 1, "key"))))

    def test_keys_and_the_street(self):
        round_one = made("m 3", "pay: m by 1", "do pay claim key/cut k/go 0", keys="word")
        self.assertEqual(mends(round_one, ["stale"]), ((("key", "cut"),),))
        left = made("m 3", "pay: m by 1; rest: m by 2; one: m to 1; none: nothing", "do pay undo rest key/back",
                    street="none one")
        self.assertEqual(mends(left, ["left"]), ((("street", "one"),),))

    def test_no_harm(self):
        for value in any_values() + ["agai", "Again", ("again",), "again unlike"]:
            for wanted in ([value], ["again", value], (value, "again")):
                with self.assertRaises(InvalidHarm):
                    mends(KEYED, wanted)

    def test_by_keywords(self):
        self.assertEqual(mends(wanted=["again"], system=BARE), mends(BARE, ("again",)))

    def test_random_systems(self):
        sizes = set()
        for seed in range(150):
            system = random_system(seed, size=2)
            if sum(len(do_lines(plan)) for plan in system.editions) > 3:
                continue
            found = {lot: set(harms(changed(system, lot)))
                     for size in range(3) for lot in combinations(changes(system), size)}
            for wanted in ([HARMS[seed % 8]], [HARMS[seed % 7], "unlike"], HARMS):
                enough = [lot for lot in found if not found[lot] & set(wanted)]
                least = [lot for lot in enough if not any(set(other) < set(lot) for other in enough)]
                told = mends(system, wanted)
                self.assertEqual(told, tuple(sorted(least, key=lambda lot: (len(lot), lot))), str(system))
                sizes |= {len(lot) for lot in told}
                self.check_stories(system, [harm for harm in found[()] if harm in wanted], told)
        self.assertEqual(sizes, {0, 1, 2})

    def check_stories(self, system, wanted, told):
        """Each story of a wanted harm is hit by each mend."""
        for harm in wanted:
            there = story(system, harm)
            self.assertIs(hits(system, harm, there, ()), False)
            for lot in told:
                self.assertIs(hits(system, harm, there, lot), True)


class HitsTest(unittest.TestCase):
    def test_hits(self):
        there = story(PAY, "again")
        self.assertIs(hits(PAY, "again", there, ()), False)
        self.assertIs(hits(PAY, "again", there, (("gear", 0, 0, "key"),)), True)
        self.assertIs(hits(PAY, "unlike", there, ()), True)
        self.assertIs(hits(lot=(), story=there, harm="again", system=PAY), False)

    def test_another_way_is_let(self):
        # With a claim the late deed is refused, and the story with a lost answer goes on as it was.
        late = ((0,), 0, ("over 0", "next", "late 0"))
        lost = ((0,), 0, ("next", "over 0", "next"))
        for there, wanted in ((late, True), (lost, False)):
            self.assertIs(hits(PAY, "again", there, ()), False)
            self.assertIs(hits(PAY, "again", there, (("gear", 0, 0, "claim"),)), wanted)
            # An open entry comes first.
            self.assertIs(hits(PAY, "again", there, (("gear", 0, 0, "ahead"),)), True)

    def test_what_is_not_possible(self):
        there = ((0,), 0, ("next", "over 0", "street clr", "next"))
        self.assertIs(hits(SET, "again", there, ()), False)
        self.assertIs(hits(SET, "again", there, (("street", "clr"),)), True)

    def test_stories_without_their_last_events(self):
        start, edition, events = story(BARE, "again")
        for size in range(len(events)):
            self.assertIs(hits(BARE, "again", (start, edition, events[:size]), ()), True)
        self.assertIs(hits(BARE, "again", (start, edition, events), ()), False)
        self.assertIs(hits(BARE, "again", (start, edition, list(events)), ()), False)

    def test_harms_that_are_met_ahead(self):
        # The third event meets `again`, so that it does not count that the last one does, too.
        events = ("next", "over 0", "next", "over 0", "next")
        self.assertEqual([at for at, _ in play(PAY, (0,), 0, events).met], [2, 4])
        self.assertIs(hits(PAY, "again", ((0,), 0, events), ()), True)
        self.assertIs(hits(PAY, "again", ((0,), 0, events[:3]), ()), False)

    def test_all_stories_and_changes(self):
        for system in (BARE, NEWER, SET, LIGHT, made("m 3", "pay: m by 1", "do pay claim key/cut k/go 0", keys="-")):
            for harm in harms(system):
                there = story(system, harm)
                for size in range(3):
                    for lot in combinations(changes(system), size):
                        self.assertEqual(hits(system, harm, there, lot), not self.is_met(system, harm, there, lot))

    def is_met(self, system, harm, there, lot):
        try:
            met = play(changed(system, lot), *there).met
        except Refused:
            return False
        return (len(there[2]) - 1, harm) in met and len({at for at, _ in met}) == 1

    def test_the_text_of_the_document(self):
        self.assertIn("keys cut word", TEXT)
        self.assertEqual(mends(BARE.with_tags([]), ["again", "unlike"]), mends(BARE, ["again", "unlike"]))


if __name__ == "__main__":
    unittest.main()
