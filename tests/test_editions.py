import random
import unittest

from asneverbegun.editions import ahead_lines, estranged, mixed, parting, reading_holds, reading_paper, reads
from asneverbegun.harms import harms, meets
from asneverbegun.opposites import pairs
from asneverbegun.plans import do_lines, stand
from plainly import Plainly, logs_of_stands, reading_steps
from samples import KEYED, NEWER, made, random_system
from values import any_values

DEEDS = ("pay: m by 1, tells m; rest: m back; want: needs m 1, m to 2; none: nothing; zero: m to 0; low: m by 2; "
         "one: m to 1")


def two(elder, newer, **more):
    return made("m 3", DEEDS, elder, newer, **more)


def is_reading_paper(system, value, logs):
    """Whether a tuple of triples of the right form is a reading paper; logs leads to the stands of both editions."""
    first = [stand(plan, ()) for plan in system.editions]
    if not all((scene, first[0], first[1]) in value for scene in system.starts):
        return False
    for triple in value:
        if not all(row in value for row in reading_steps(system, triple, (logs[0][triple[1]], logs[1][triple[2]]))):
            return False
    return True


class ReadsTest(unittest.TestCase):
    def test_the_examples(self):
        self.assertEqual((reads(NEWER), parting(NEWER), ahead_lines(NEWER)), (False, ("book ok", "pay ok"), (1,)))
        self.assertEqual(harms(NEWER), ("astray", "loose"))
        self.assertEqual(meets(NEWER, "loose"), (("late", "newer"), ("lost", "newer")))
        self.assertEqual(estranged(NEWER), ())

    def check(self, elder, newer, parted, lines, **more):
        """What is told of two editions: the log that is not read (None: all are), and the pairs of lines."""
        system = two(elder, newer, **more)
        self.assertIs(reads(system), parted is None)
        self.assertEqual(parting(system), parted)
        self.assertEqual(mixed(system), lines)
        paper = reading_paper(system)
        self.assertEqual(paper is None, parted is not None)
        if paper is not None:
            self.assertIs(reading_holds(system, paper), True)
        return system

    def test_the_same_logs(self):
        self.check("do pay/do none", "do pay/do none", None, ((-1, -1), (0, 0), (1, 1), (2, 2)))
        self.check("do pay undo rest/back", "do pay/back", ("pay ok 0", "back", "undo rest ok"), ((0, 0), (1, 1)))
        self.check("do pay undo rest/back", "go 1/do pay undo rest claim key/back", None, ((0, 1), (1, 2)))
        self.check("end", "end", None, ((-1, -1), (0, 0)))

    def test_parting_at_once(self):
        self.check("do pay", "do none", ("pay ok 0",), ((0, 0),))
        self.check("end", "do pay", ("end",), ((0, 0),))
        self.check("sure/do pay", "back", ("sure",), ((0, 0),))

    def test_parting_late(self):
        self.check("do none/do want/do pay", "do none/do want/end", ("none ok", "want no", "pay ok 0"),
                   ((0, 0), (1, 1), (2, 2)))
        self.check("do want else 2/do none/end", "do want else 2/end/end", ("want ok", "none ok"),
                   ((-1, -1), (0, 0), (1, 1), (2, 2)), street="pay")
        # The other way is shorter.
        self.check("do none/do want else 3/do none/do one", "do none/do want else 3/do none/end",
                   ("none ok", "want no", "one ok"), ((0, 0), (1, 1), (2, 2), (3, 3)), street="pay")

    def test_behind_cuts(self):
        self.check("do pay/cut k/do none", "do pay/cut k/do none", None, ((-1, -1), (0, 0), (1, 1), (2, 2), (3, 3)))
        # The newer edition need not come to its cut itself.
        self.check("do pay/cut k/do none", "do pay/end/cut k/do none", None,
                   ((-1, -1), (0, 0), (1, 1), (2, 3), (3, 4)))
        self.check("do pay/cut k/do none", "do pay/cut l/do none", ("cut k",), ((0, 0), (1, 1)))
        # What is not read is forgotten behind a cut.
        self.check("do pay/cut k/do none", "do none/cut k/do none", ("pay ok 0",), ((-1, -1), (0, 0), (2, 2), (3, 3)))
        self.check("do none/do none/do pay/cut k/do pay/go 3", "do none/do none/do pay/cut k/do none",
                   ("cut k", "pay ok 1"), ((0, 0), (1, 1), (2, 2), (3, 3), (4, 4)))

    def test_plans_that_go_round(self):
        system = self.check("do pay/cut k/go 0", "do pay/cut k/go 0", None, ((0, 0), (1, 1)))
        self.assertEqual(len(reading_paper(system)), 6)

    def test_open_entries_in_one_edition_alone(self):
        self.check("do pay ahead", "do pay", ("pay ?",), ((-1, -1), (0, 0), (1, 1)))
        self.check("do pay", "do pay ahead", None, ((-1, -1), (0, 0), (1, 1)))
        self.check("do pay ahead", "do pay ahead", None, ((-1, -1), (0, 0), (1, 1)))
        self.check("do none undo pay ahead/back", "do none undo pay ahead/back", None, ((0, 0), (1, 1)))
        self.check("do none undo pay ahead/back", "do none undo pay/back", ("none ?",), ((0, 0), (1, 1)))

    def test_keys_make_no_difference(self):
        self.check("do pay key/cut k/go 0", "do pay/cut k/go 0", None, ((0, 0), (1, 1)), keys="-")

    def test_values_that_are_told_and_got_back(self):
        # One opposite takes back what unlike lines told; the logs are the same.
        system = made("a 2, b 2", "see: tells a; look: tells b; rev: nothing", "do see undo rev/do look/back",
                      "do see/do look undo rev/back", starts=["0 1"])
        self.assertTrue(reads(system))
        self.assertEqual(mixed(system), ((0, 0), (1, 1), (2, 2)))

    def test_by_keywords(self):
        self.assertIs(reading_holds(value=(), system=NEWER), False)
        self.assertEqual((reads(system=NEWER), mixed(system=NEWER)), (False, ((0, 0), (1, 1))))

    def test_random_systems(self):
        parted = set()
        for seed in range(400):
            system = random_system(seed, editions=2)
            plainly = Plainly(system, 0, 250)
            if not plainly.is_whole:
                continue
            self.assertEqual(reads(system), plainly.reads(), str(system))
            unread = [log for log in plainly.logs() if stand(system.editions[1], log) is None]
            log = parting(system)
            self.assertEqual(log is None, not unread)
            if unread:
                self.assertIn(log, unread)
                self.assertEqual(len(log), min(len(other) for other in unread), str(system))
            parted.add(None if log is None else len(log))
            self.assertEqual(mixed(system), plainly.mixed(), str(system))
            self.assertEqual(ahead_lines(system), plainly.ahead_lines(), str(system))
            self.assertEqual(estranged(system), plainly.estranged(), str(system))
            paper = reading_paper(system)
            self.assertEqual(paper is None, bool(unread))
            if paper is not None:
                self.assertIs(reading_holds(system, paper), True)
        self.assertTrue(parted >= {None, 1, 2, 3, 4})


class ReadingPaperTest(unittest.TestCase):
    def setUp(self):
        self.system = two("do pay undo rest ahead/back", "do pay undo rest ahead claim/back", street="none")
        self.paper = reading_paper(self.system)

    def holds(self, *rows):
        return reading_holds(self.system, rows)

    def test_what_comes_about(self):
        stack = ((0, "rest", "ok 0"),)
        there = [((0,), (0, False, False, ())), ((0,), (0, False, True, ())), ((1,), (1, False, False, stack)),
                 ((1,), (1, True, False, stack)), ((1,), (1, True, True, stack)), ((0,), (1, True, False, ())),
                 ((0,), (-1, True, False, ()))]
        self.assertEqual(sorted(self.paper), sorted((scene, one, one) for scene, one in there))

    def test_left_out_put_in_and_otherwise(self):
        self.assertIs(self.holds(*self.paper), True)
        self.assertIs(self.holds(*self.paper[::-1], *self.paper), True)
        for triple in self.paper:
            self.assertIs(self.holds(*[row for row in self.paper if row != triple]), False)
        gone = (-1, True, False, ())
        self.assertIs(self.holds(*self.paper, ((2,), gone, (-1, False, False, ((0, "rest", "ok 1"),)))), True)
        self.assertIs(self.holds(*self.paper, ((2,), gone, (0, False, True, ()))), True)
        # These lead to what is not there, or is not read.
        self.assertIs(self.holds(*self.paper, ((2,), (0, False, False, ()), (0, False, False, ()))), False)
        self.assertIs(self.holds(*self.paper, ((0,), (0, False, False, ()), gone)), False)
        self.assertIs(self.holds(*self.paper, ((0,), (0, False, True, ()), (1, False, False, ()))), False)
        self.assertIs(self.holds(), False)

    def test_forms(self):
        first = (0, False, False, ())
        gone = (-1, True, False, ())
        self.assertTrue(self.holds(*self.paper, ((2,), gone, first)))
        for row in (((2,), gone), ((3,), gone, first), ((True,), gone, first), ([2], gone, first), ((2,), gone, None),
                    ((2,), None, first), ((2,), gone, (0, False, 0, ())), ((2,), gone, (3, False, False, ())),
                    ((2,), gone, (1, False, True, ())), [(2,), gone, first], ((2,), gone, first, ()),
                    ((2,), gone, (1, True, True, ())), ((2,), gone, (0, True, False, ())),
                    ((2,), gone, (0, False, False, ((0, "rest", "ok"),))), ((2,), (1, False, True, ()), first)):
            self.assertIs(self.holds(*self.paper, row), False, row)
        self.assertIs(reading_holds(self.system, list(self.paper)), False)
        # Each stand has the form of its own edition.
        system = two("do pay", "do pay/do none undo pay")
        paper = reading_paper(system)
        self.assertIsNone(paper)
        system = two("do pay/do none", "do pay/do none/cut k")
        self.assertIsNone(reading_paper(system))
        system = two("do pay/end", "do pay/end/do none undo pay ahead")
        paper, rest = reading_paper(system), (2, False, True, ((2, "pay", "ok"),))
        self.assertIs(reading_holds(system, paper + (((0,), (-1, False, False, ()), rest),)), True)
        self.assertIs(reading_holds(system, paper + (((0,), rest, (-1, False, False, ())),)), False)

    def test_any_values(self):
        for value in any_values():
            self.assertIs(reading_holds(self.system, value), False)
            self.assertIs(reading_holds(NEWER, value), False)
            self.assertIs(self.holds(*self.paper, value), False)
            for at in range(3):
                row = [(2,), (-1, True, False, ()), (-1, True, False, ())]
                row[at] = value
                self.assertIs(self.holds(*self.paper, tuple(row)), at == 0 and repr(value) in ("(0,)", "(1,)"))

    def test_papers_with_changes(self):
        found = {True: 0, False: 0}
        for seed in range(500):
            system = random_system(seed, editions=2)
            paper = reading_paper(system)
            if paper is None:
                continue
            logs = [logs_of_stands(system, edition) for edition in (0, 1)]
            if any(row[1] not in logs[0] or row[2] not in logs[1] for row in paper):
                continue
            rng = random.Random(seed)
            scenes, stands = system.world.scenes(), [sorted(rows) for rows in logs]
            for _ in range(8):
                rows = list(paper)
                for _ in range(rng.choice([1, 1, 2])):
                    if rng.random() < 0.7:
                        _, elder, newer = rng.choice(paper)
                        if rng.random() < 0.4:
                            elder = rng.choice(stands[0])
                        if rng.random() < 0.4:
                            newer = rng.choice(stands[1])
                        rows.append((rng.choice(scenes), elder, newer))
                    else:
                        rows.pop(rng.randrange(len(rows)))
                wanted = is_reading_paper(system, rows, logs)
                found[wanted] += 1
                self.assertIs(reading_holds(system, tuple(rows)), wanted, str(system))
        self.assertGreater(min(found.values()), 30)


class AheadTest(unittest.TestCase):
    def test_ahead_lines(self):
        self.assertEqual(ahead_lines(two("do pay", "do pay")), ())
        self.assertEqual(ahead_lines(two("do pay", "do pay ahead")), ())
        self.assertEqual(ahead_lines(two("do pay", "do none")), (0,))
        self.assertEqual(ahead_lines(two("do pay ahead", "do none")), (0,))
        self.assertEqual(ahead_lines(two("do none", "do pay")), ())
        self.assertEqual(ahead_lines(two("do pay", "end")), (0,))
        self.assertEqual(ahead_lines(two("do none/do pay", "do zero/do none")), ())
        self.assertEqual(ahead_lines(two("do pay", "sure/do pay")), (0,))

    def test_a_deed_that_changes_nothing_where_it_is_asked(self):
        self.assertEqual(ahead_lines(two("do want", "do pay")), ())
        self.assertEqual(ahead_lines(two("do want", "do pay", street="pay")), (0,))
        self.assertEqual(ahead_lines(two("do one", "do zero", starts=["1"])), ())

    def test_opposites(self):
        self.assertEqual(ahead_lines(two("do pay undo rest/back", "do pay undo rest/back")), ())
        self.assertEqual(ahead_lines(two("do pay undo rest/back", "do pay undo low/back")), (0,))
        self.assertEqual(ahead_lines(two("do none/do pay undo rest/back", "do none/do pay/back")), (1,))

    def test_the_same_word_with_other_values(self):
        deeds = "see: tells a; look: tells b; put: a by 1, tells a; rev: a back; low: b to 0"
        elder, newer = "do put undo rev/do see/back", "do put/do see undo rev/back"
        self.assertEqual(ahead_lines(made("a 2, b 2", deeds, elder, newer)), (0,))
        self.assertTrue(reads(made("a 2, b 2", deeds, elder, newer)))
        # Behind `see` alone both get the same value back.
        self.assertEqual(ahead_lines(made("a 2, b 2", deeds, "do see undo rev/back", "do see undo rev/back", street="put")),
                         ())

    def test_unlike_and_loose_happen_at_these_lines_only(self):
        # With `claim` and `key` in all lines, and both tags.
        seen = 0
        for seed in range(1200):
            system = random_system(seed, editions=2, tags=["cut", "word"])
            for edition, plan in enumerate(system.editions):
                gears = [("claim", "key") + (("ahead",) if "ahead" in plan.gear(at) else ()) for at in do_lines(plan)]
                system = system.with_gears(edition, gears)
            if not ahead_lines(system):
                seen += 1
                self.assertFalse({"unlike", "loose"} & set(harms(system)), str(system))
        self.assertGreater(seen, 100)


class EstrangedTest(unittest.TestCase):
    def test_estranged(self):
        self.assertEqual(estranged(two("do pay undo rest/back", "do pay undo rest/back")), ())
        self.assertEqual(estranged(two("do pay undo rest/back", "do pay/back")), ((0, 0),))
        self.assertEqual(estranged(two("do pay/back", "do pay undo rest/back")), ())
        self.assertEqual(estranged(two("do none/back", "do none/back")), ())
        self.assertEqual(estranged(two("do zero undo pay/back", "go 1/do zero undo want/back")), ((0, 1),))
        self.assertEqual(estranged(two("do pay undo rest", "do pay undo zero", starts=["0"])), ())
        self.assertEqual(estranged(two("do pay undo rest", "do pay undo zero", starts=["0", "1"])), ((0, 0),))

    def test_a_deed_that_is_answered_no(self):
        self.assertEqual(estranged(two("do want undo none", "do want")), ())
        self.assertEqual(estranged(two("do want undo none", "do want", street="pay")), ((0, 0),))

    def test_logs_that_are_not_read(self):
        self.assertEqual(estranged(two("do none/do pay", "do zero/do pay")), ())
        self.assertEqual(estranged(two("do none/cut k/do pay", "do zero/cut k/do pay")), ((2, 2),))
        # The open entry is not read, but the entry that comes in its place is.
        self.assertEqual(estranged(two("do pay ahead", "do pay")), ((0, 0),))

    def test_a_log_that_is_not_read_though_its_line_is_met_elsewhere(self):
        self.assertEqual(estranged(two("do none/do pay/cut k/go 0", "do zero/cut k/do pay/go 1")), ())

    def test_a_deed_that_is_answered_no_at_one_of_two_lines(self):
        # The newer edition reads `want no` by its line 0, and `want ok` by its line 3.
        system = two("do want/do pay/cut k/go 0", "do want/do pay/cut k/do want undo none/do pay/go 2")
        self.assertEqual(pairs(system, 0, 0), (((2,), (1,), "ok"),))
        self.assertEqual(estranged(system), ((0, 3), (1, 1), (1, 4)))

    def test_opposites_do_not_count(self):
        # Both take back by `none`: what line 0 of the elder one did, and what line 1 of the newer one did.
        self.assertEqual(estranged(two("do one undo none/do none/back", "do one/do none undo none/back")), ((0, 0),))

    def test_one_line_with_several(self):
        system = two("do pay/cut k/go 0", "do pay/cut k/do pay undo rest/go 1")
        self.assertEqual(estranged(system), ((0, 0),))
        self.assertEqual(mixed(system), ((0, 0), (0, 2), (1, 1)))

    def test_it_is_told_by_pairs(self):
        self.assertEqual(pairs(KEYED, 0, 0), pairs(NEWER, 0, 0))
        self.assertEqual(estranged(NEWER.with_street(["rest"])), ())
        self.assertEqual(estranged(NEWER.with_street(["book"])), ((0, 0),))


if __name__ == "__main__":
    unittest.main()
