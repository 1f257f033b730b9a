import random
import unittest

from asneverbegun.gears import (
    enough, joints, least_gears, least_tables, needless, stopped, stops, with_table,
)
from asneverbegun.harms import harms
from asneverbegun.plans import do_lines
from samples import BARE, KEYED, LIGHT, NEWER, ONE, OTHER, PAY, SET, made, random_system

THREE = {"again", "unlike", "loose"}
LOTS = ((), ("claim",), ("key",), ("claim", "key"))


def gears_of(system):
    return [(edition, at, word) for edition, plan in enumerate(system.editions)
            for at in do_lines(plan) for word in plan.gear(at)]


def all_tables(system):
    """All tables of a system."""
    rows = [()]
    for plan in system.editions:
        for _ in do_lines(plan):
            rows = [row + (lot,) for row in rows for lot in LOTS]
    sizes = [len(do_lines(plan)) for plan in system.editions]
    tables = []
    for row in rows:
        table = []
        for size in sizes:
            table.append(row[:size])
            row = row[size:]
        tables.append(tuple(table))
    return tables


def is_part(less, more):
    return all(set(lot) <= set(other) for lots, others in zip(less, more) for lot, other in zip(lots, others))


class EnoughTest(unittest.TestCase):
    def test_the_examples(self):
        self.assertEqual(least_gears(BARE), (("key",), ("key",)))
        self.assertIs(enough(BARE, 0, ["claim"]), False)
        self.assertEqual(needless(KEYED), ())
        self.assertEqual(least_gears(LIGHT), (("claim",),))

    def test_enough(self):
        self.assertFalse(enough(PAY, 0, ()))
        self.assertFalse(enough(PAY, 0, ("claim",)))
        self.assertTrue(enough(PAY, 0, ("key",)))
        self.assertTrue(enough(LIGHT, 0, ["claim"]))
        self.assertFalse(enough(LIGHT, 0, []))
        self.assertIs(enough(gear=["key", "claim"], at=0, system=BARE), True)

    def test_the_gears_that_the_line_has_make_no_difference(self):
        self.assertFalse(enough(KEYED, 0, ()))
        self.assertFalse(enough(KEYED, 1, ("claim",)))
        self.assertEqual(least_gears(KEYED), (("key",), ("key",)))

    def test_ahead_makes_no_difference(self):
        for seed in range(60):
            system = random_system(seed, editions=1, tags=["cut", "word"])
            for at in do_lines(system.editions[0]):
                for lot in LOTS:
                    self.assertEqual(enough(system, at, lot), enough(system, at, ("ahead",) + lot), str(system))

    def test_the_line_of_an_opposite_is_that_of_its_deed(self):
        # Doing `none` twice is nothing, but its opposite changes the scene each time.
        plan = made("m 3", "none: nothing; pay: m by 1", "do none undo pay/back")
        self.assertEqual(least_gears(plan), (("key",),))
        self.assertFalse(enough(plan, 0, ("claim",)))

    def test_lines_are_judged_by_themselves(self):
        plan = made("m 3, a 2", "pay: m by 1; put: a to 1; clr: a to 0; none: nothing",
                    "do pay/do put undo clr/do none undo none/do put/back")
        self.assertEqual(least_gears(plan), (("key",), ("claim",), (), ("claim",)))
        plan = plan.with_street(["clr"])
        self.assertEqual(least_gears(plan), (("key",), ("key",), (), ("key",)))

    def test_only_first_harms_count(self):
        # The first deed can only come again behind its opposite, and ahead of that the work is stuck.
        deeds = "put: a to 1; clr: a to 0; pay: b to 1; bad: needs b 0, b to 0"
        plan = made("a 2, b 2", deeds, "do put undo clr/do pay undo bad/back")
        self.assertEqual(least_gears(plan), ((), ()))
        self.assertEqual((joints(plan), least_tables(plan)), ((), ((((), ()),),)))

    def test_lines_that_are_never_come_to(self):
        self.assertEqual(least_gears(made("m 3", "pay: m by 1", "end/do pay")), ((),))
        self.assertEqual(least_gears(made("m 3", "pay: m by 1", "end")), ())

    def test_what_holds_of_least_gears(self):
        less = {(): (), ("claim",): ((),), ("key",): ((), ("claim",))}
        for seed in range(100):
            system = random_system(seed, editions=1, tags=["cut", "word"])
            gears = least_gears(system)
            first = {"again", "unlike", "loose", "astray", "stale"}
            self.assertFalse(first & set(harms(system.with_gears(0, gears))), str(system))
            for at, gear in enumerate(gears):
                for lesser in less[gear]:
                    other = system.with_gears(0, gears[:at] + (lesser,) + gears[at + 1:])
                    self.assertTrue({"again", "unlike"} & set(harms(other)), str(other))


class NeedlessTest(unittest.TestCase):
    def test_by_hand(self):
        self.assertEqual(needless(ONE), ())
        self.assertEqual(needless(BARE), ())
        self.assertEqual(needless(made("m 3", "pay: m by 1", "do pay claim key")), ((0, 0, "claim"),))
        self.assertEqual(needless(made("m 3", "pay: m by 1", "do pay ahead claim key")), ((0, 0, "ahead"), (0, 0, "claim")))
        self.assertEqual(needless(LIGHT.with_gears(0, [["claim", "key"]])), ((0, 0, "claim"), (0, 0, "key")))
        # The claim keeps nothing away: what is lost meets the same harm.
        self.assertEqual(needless(made("m 3", "pay: m by 1", "do pay claim")), ((0, 0, "claim"),))

    def test_editions_and_tags(self):
        for seed in range(40):
            system = random_system(seed)
            wanted = []
            for edition, at, word in gears_of(system):
                plan = system.editions[edition]
                plan = plan.with_gear(at, [other for other in plan.gear(at) if other != word])
                editions = system.editions[:edition] + (plan,) + system.editions[edition + 1:]
                if harms(system.with_editions(editions)) == harms(system):
                    wanted.append((edition, at, word))
            self.assertEqual(needless(system), tuple(sorted(wanted)))

    def test_by_parameter_names(self):
        self.assertEqual(needless(system=ONE), ())
        self.assertEqual(least_gears(system=ONE), (("key",),))


class JointsTest(unittest.TestCase):
    def test_the_examples(self):
        self.assertEqual(joints(BARE), (
            (0, 0, 0, 0, "late", True), (0, 0, 0, 0, "lost", True), (0, 1, 0, 1, "late", True), (0, 1, 0, 1, "lost", True)))
        self.assertEqual(least_tables(BARE), (((("key",), ("key",)),),))
        self.assertEqual([joint[:4] for joint in joints(NEWER) if not joint[5]], [(0, 1, 1, -1), (0, 1, 1, -1)])
        self.assertEqual(least_tables(NEWER), ())
        self.assertEqual(joints(LIGHT), ((0, 0, 0, 0, "late", True),))
        self.assertEqual(least_tables(LIGHT), (((("claim",),),), ((("key",),),)))

    def test_claims_and_keys_are_left_aside(self):
        self.assertEqual(joints(BARE), joints(KEYED))
        self.assertEqual(joints(BARE), joints(BARE.with_gears(0, [["claim"], ["claim", "key"]])))

    def test_no_joints(self):
        plan = made("m 3", "none: nothing", "do none")
        self.assertEqual((joints(plan), least_tables(plan), stops(plan, (((),),))), ((), ((((),),),), True))

    def test_other_words_of_another_edition(self):
        plan = made("a 2", OTHER, "do put", "do none")
        self.assertEqual(joints(plan), ((0, 0, 1, 0, "late", False), (0, 0, 1, 0, "lost", False)))
        self.assertEqual(least_tables(plan), ())

    def test_ahead_is_not_left_aside(self):
        plan = made("a 2", OTHER, "do put ahead", "do none ahead")
        self.assertEqual(joints(plan), ())
        plan = made("a 2", OTHER, "do put", "do none ahead")
        self.assertEqual(joints(plan), ((0, 0, 1, 0, "late", False), (0, 0, 1, 0, "lost", False)))

    def test_entries_that_ask_nothing(self):
        for line in ("sure", "cut k", "back", "end"):
            plan = made("a 2", OTHER, "do put", line)
            self.assertEqual(joints(plan), ((0, 0, 1, -1, "late", False), (0, 0, 1, -1, "lost", False)), line)

    def test_lines_of_opposites(self):
        plan = made("m 4", "none: nothing; pay: m by 1", "do none undo pay/do none/back", "do none/do none undo pay/back")
        words = {(0, 0, 0, 0): True, (1, 1, 1, 1): True, (0, 0, 1, 1): True}
        self.assertEqual(joints(plan), tuple(sorted([row + (way, agree) for row, agree in words.items()
                                                     for way in ("late", "lost")])))

    def test_opposites_that_get_other_values_back_do_not_agree(self):
        deeds = "a: x to 1, tells x; b: x to 2, tells x; o: x back"
        plan = made("x 3", deeds, "do a undo o/do b undo o/back", "do a undo o/do b/back")
        rows = [joint for joint in joints(plan) if joint[:2] == (0, 1) and joint[2] == 1]
        self.assertIn((0, 1, 1, 0, "late", False), rows)
        self.assertIn((0, 1, 1, 0, "lost", False), rows)

    def test_open_entries_of_which_another_host_asks_another_word(self):
        # It is the present host that counts, not the one that wrote the open entry.
        deeds = "a: x to 1, tells x; b: x to 2, tells x; o: x back"
        plan = made("x 3", deeds, "do a undo o/do b undo o ahead/back", "do a undo o ahead/do b/back")
        self.assertIn((0, 1, 1, 0, "late", False), joints(plan))

    def test_stops(self):
        late, lost = (0, 0, 0, 0, "late", True), (0, 0, 0, 0, "lost", True)
        self.assertEqual(joints(PAY), (late, lost))
        for lot, rows in (((), ()), (("claim",), (late,)), (("key",), (late, lost)), (("claim", "key"), (late, lost))):
            self.assertEqual(stopped(PAY, ((lot,),)), rows)
            self.assertIs(stops(PAY, ((lot,),)), len(rows) == 2)
        self.assertIs(stops(table=((("key",),),), system=PAY), True)
        self.assertEqual(stopped(table=((("key",),),), system=PAY), (late, lost))

    def test_both_lines_need_the_key(self):
        plan = made("a 2", OTHER, "do put key", "do put").with_street(["clr"])
        wanted = {joint for joint in joints(plan) if joint[0] == joint[2]}
        self.assertTrue(wanted < set(joints(plan)))
        self.assertEqual(set(stopped(plan, ((("key",),), ((),)))) & wanted, {row for row in wanted if row[0] == 0})
        crossing = set(joints(plan)) - wanted
        for table in (((("key",),), ((),)), (((),), (("key",),))):
            self.assertFalse(set(stopped(plan, table)) & crossing)
        self.assertTrue(stops(plan, ((("key",),), (("key",),))))
        self.assertEqual(least_tables(plan), (((("key",),), (("key",),)),))

    def test_claims_stop_what_does_not_agree(self):
        # If the first deed is lost, nothing was changed by it; late it changes what the newer edition did.
        deeds = "set: needs a 1, a to 0; put: a to 1"
        plan = made("a 2", deeds, "do set", "do put")
        self.assertEqual(joints(plan), ((0, 0, 1, 0, "late", False),))
        self.assertEqual(stopped(plan, ((("key",),), (("key",),))), ())
        self.assertEqual(least_tables(plan), (((("claim",),), ((),)),))

    def test_with_table(self):
        system = made("a 2", OTHER, "do put ahead claim/sure/do none key", "do put undo clr ahead key")
        other = with_table(system, ((("key",), ()), (("claim", "key"),)))
        self.assertEqual([plan.lines for plan in other.editions],
                         [("do put ahead key", "sure", "do none"), ("do put undo clr ahead claim key",)])
        self.assertEqual(with_table(table=(((), ()), ((),)), system=system).editions[0].lines, ("do put ahead", "sure", "do none"))

    def test_what_holds_of_tables(self):
        for seed in range(250):
            system = random_system(seed, tags=["cut", "word"])
            rng = random.Random(seed)
            rows = joints(system)
            self.assertEqual(rows, tuple(sorted(set(rows))))
            for _ in range(3):
                table = tuple(tuple(rng.choice(LOTS) for _ in do_lines(plan)) for plan in system.editions)
                self.assertEqual(stops(system, table), not THREE & set(harms(with_table(system, table))), str(system))
                self.assertEqual(stops(system, table), stopped(system, table) == rows)

    def test_least_tables(self):
        for seed in range(120):
            system = random_system(seed, tags=["cut", "word"])
            if sum(len(do_lines(plan)) for plan in system.editions) <= 4:
                rows = joints(system)
                good = [table for table in all_tables(system) if stopped_all(rows, system, table)]
                least = [table for table in good if not any(is_part(other, table) and other != table for other in good)]
                self.assertEqual(least_tables(system), tuple(sorted(least)), str(system))

    def test_one_edition_asks_the_same_by_the_same_line(self):
        for seed in range(60):
            for i, a, j, b, _, agree in joints(random_system(seed, editions=1, tags=["cut", "word"])):
                self.assertEqual((i, j, a, agree), (0, 0, b, True))

    def test_by_parameter_names(self):
        self.assertEqual(joints(system=SET), joints(SET))
        self.assertEqual(least_tables(system=SET), (((("key",),),),))


def stopped_all(rows, system, table):
    """Whether a table stops all these joints, by the words of the document."""
    words = {}
    for edition, plan in enumerate(system.editions):
        for at, lot in zip(do_lines(plan), table[edition]):
            words[edition, at] = lot
    for i, a, j, b, way, agree in rows:
        by_claim = way == "late" and "claim" in words[i, a]
        if not by_claim and not (agree and "key" in words[i, a] and "key" in words[j, b]):
            return False
    return True


if __name__ == "__main__":
    unittest.main()
