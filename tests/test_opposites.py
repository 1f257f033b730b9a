import unittest
from itertools import combinations

from asneverbegun.errors import NoLine
from asneverbegun.opposites import bars, clean, clean_holds, clean_paper, faults, pairs
from asneverbegun.plans import do_lines
from plainly import Plainly
from samples import BARE, KEYED, NEWER, made, random_system
from values import any_values

DEEDS = "pay: m by 1, tells m; rest: m back; put: m to 1; none: nothing; want: needs m 1, m to 2; zero: m to 0"


class PairsTest(unittest.TestCase):
    def test_the_examples(self):
        self.assertEqual(pairs(BARE, 0, 0), (((1, 0), (0, 0), "ok"),))
        self.assertIs(clean(BARE, 0, 1), True)
        self.assertEqual(faults(BARE.with_street(["book"]), 0, 0), ("left", "noticed"))
        self.assertEqual(bars(BARE.with_street(["book", "rest"]), 0, 0), (("book",),))

    def test_deeds_of_the_street_are_done_at_both(self):
        system = made("m 3", DEEDS, "do pay undo rest", street="put")
        self.assertEqual(pairs(system, 0, 0), (((1,), (0,), "ok 0"), ((1,), (1,), "ok 0"), ((1,), (1,), "ok 1"),
                                               ((2,), (1,), "ok 1")))
        self.assertEqual(faults(system, 0, 0), ("left",))
        self.assertEqual(bars(system, 0, 0), (("put",),))

    def test_all_starts_and_all_moments_count(self):
        system = made("m 3", DEEDS, "do none/do pay", starts=["0", "2"])
        self.assertEqual(pairs(system, 0, 1), (((0,), (2,), "ok 2"), ((1,), (0,), "ok 0")))
        self.assertEqual(pairs(system, 0, 0), (((0,), (0,), "ok"), ((2,), (2,), "ok")))

    def test_a_deed_that_is_answered_no(self):
        never = made("m 3", DEEDS, "do want undo none")
        self.assertEqual((pairs(never, 0, 0), clean(never, 0, 0), faults(never, 0, 0)), ((), True, ()))
        self.assertEqual((clean_paper(never, 0, 0), bars(never, 0, 0)), ((), ((),)))
        some = never.with_street(["put"])
        self.assertEqual(pairs(some, 0, 0), (((1,), (1,), "ok"), ((2,), (1,), "ok")))
        self.assertEqual((clean(some, 0, 0), faults(some, 0, 0), bars(some, 0, 0)), (False, ("left",), (("put",),)))

    def test_a_line_that_is_never_asked(self):
        system = made("m 3", DEEDS, "go 2/do pay/end")
        self.assertEqual((pairs(system, 0, 1), clean(system, 0, 1), bars(system, 0, 1)), ((), True, ((),)))

    def test_lines_without_an_opposite(self):
        self.assertTrue(clean(made("m 3", DEEDS, "do none"), 0, 0))
        self.assertEqual(faults(made("m 3", DEEDS, "do none", street="pay"), 0, 0), ())
        self.assertEqual(faults(made("m 3", DEEDS, "do pay"), 0, 0), ("left",))
        self.assertEqual(bars(made("m 3", DEEDS, "do pay", street="put"), 0, 0), ())

    def test_an_opposite_that_is_answered_no(self):
        system = made("m 3", DEEDS + "; up: m by 1", "do put undo want", street="up", starts=["1"])
        self.assertEqual(faults(system, 0, 0), ("left", "stuck"))
        self.assertEqual(faults(system.with_street([]), 0, 0), ("left",))
        self.assertEqual(faults(made("m 3", DEEDS, "do zero undo want"), 0, 0), ("stuck",))

    def test_values_that_are_told_and_got_back(self):
        self.assertTrue(clean(made("m 3", DEEDS, "do pay undo rest", starts=["0", "1", "2"]), 0, 0))
        # `zero` tells nothing of a cell that its opposite would set back, so a fixed value fits one scene alone.
        self.assertTrue(clean(made("m 3", DEEDS, "do zero undo put", starts=["1"]), 0, 0))
        self.assertFalse(clean(made("m 3", DEEDS, "do zero undo put", starts=["1", "2"]), 0, 0))

    def test_a_street_that_notices(self):
        system = made("m 3, a 2", "pay: m by 1; rest: m by 2; look: needs m 1, a to 1", "do pay undo rest/back",
                      street="look")
        self.assertEqual(faults(system, 0, 0), ("left", "noticed"))
        harmless = made("m 3", "pay: m by 1; rest: m by 2; look: tells m", "do pay undo rest/back", street="look")
        self.assertEqual((faults(harmless, 0, 0), clean(harmless, 0, 0)), (("noticed",), True))
        self.assertEqual(bars(harmless, 0, 0), ((),))

    def test_a_street_that_hides(self):
        # Behind `zero` both scenes are equal; then the opposite leads elsewhere.
        system = made("m 3", "pay: m by 1; rest: m by 2; zero: m to 0", "do pay undo rest", street="zero")
        self.assertEqual((faults(system, 0, 0), bars(system, 0, 0)), (("left",), (("zero",),)))
        # Without an opposite it is the other way about: it is left only as long as nobody hides it.
        self.assertEqual(faults(made("m 3", "pay: m by 1; zero: m to 0", "do pay", street="zero"), 0, 0), ("left",))

    def test_bars_of_one_of_two_and_of_none(self):
        deeds = "pay: m by 1; rest: m by 2; zero: m to 0; one: m to 1; two: m by 2"
        system = made("m 3", deeds, "do pay undo rest", street="zero one two")
        self.assertEqual(bars(system, 0, 0), (("one", "zero"),))
        deeds = "put: needs a 0, a to 1; clr: a to 0; see: needs a 1, b to 1; wipe: b to 0; both: a to 1, b to 1"
        system = made("a 2, b 2", deeds, "do put undo clr", street="see both")
        self.assertEqual(bars(system, 0, 0), (("both", "see"),))
        self.assertEqual(bars(made("a 2, b 2", deeds, "do put", street="see both"), 0, 0), ())
        # Two that are harmful only together: each one alone can be barred.
        deeds = "none: nothing; one: needs m 0, m to 1; two: needs m 1, m to 2; chk: needs m 2, m to 0; oops: m to 1"
        system = made("m 3", deeds, "do chk undo none", street="one two")
        self.assertEqual(bars(system, 0, 0), (("one",), ("two",)))

    def test_plans_that_go_round(self):
        system = made("m 3", DEEDS, "do pay undo rest/cut k/go 0")
        self.assertEqual(len(pairs(system, 0, 0)), 3)
        self.assertTrue(clean(system, 0, 0))

    def test_keys_make_no_difference(self):
        system = made("m 3", DEEDS, "do pay undo rest key/cut k/go 0", keys="-")
        self.assertEqual(pairs(system, 0, 0), pairs(made("m 3", DEEDS, "do pay undo rest/cut k/go 0"), 0, 0))

    def test_each_edition_by_itself(self):
        system = made("m 3", DEEDS, "do pay undo rest", "do put undo zero/do pay")
        self.assertEqual(pairs(system, 1, 0), (((1,), (0,), "ok"),))
        self.assertEqual(pairs(system, 1, 1), (((2,), (1,), "ok 1"),))
        self.assertEqual(faults(system, 1, 1), ("left",))

    def test_no_line(self):
        lines = list(do_lines(NEWER.editions[1]))
        calls = [pairs, clean, faults, bars, clean_paper, lambda system, edition, at: clean_holds(system, edition, at, ())]
        for value in any_values() + [2, 3, -1, 4, 100]:
            if isinstance(value, int) and not isinstance(value, bool) and value in lines:
                continue
            for call in calls:
                with self.assertRaises(NoLine) as caught:
                    call(NEWER, 1, value)
                self.assertIs(caught.exception.at, value)

    def test_by_keywords(self):
        self.assertEqual(pairs(at=0, edition=0, system=BARE), pairs(BARE, 0, 0))
        self.assertTrue(clean_holds(value=clean_paper(at=0, edition=0, system=BARE), at=0, edition=0, system=BARE))

    def test_random_systems(self):
        for seed in range(150):
            system = random_system(seed)
            for edition, plan in enumerate(system.editions):
                plainly = Plainly(system, edition, 250)
                if plainly.is_whole:
                    for at in do_lines(plan):
                        self.check_line(system, edition, at, plainly)

    def check_line(self, system, edition, at, plainly):
        self.assertEqual(pairs(system, edition, at), plainly.pairs(at), str(system))
        self.assertEqual(faults(system, edition, at), plainly.faults(at), str(system))
        self.assertEqual(clean(system, edition, at), plainly.clean(at), str(system))
        paper = clean_paper(system, edition, at)
        self.assertEqual(paper is not None, plainly.clean(at))
        if paper is not None:
            self.assertIs(clean_holds(system, edition, at, paper), True)
        lots = []
        for size in range(len(system.street) + 1):
            for names in combinations(system.street, size):
                rest = system.with_street([name for name in system.street if name not in names])
                if not any(set(lot) <= set(names) for lot in lots) and clean(rest, edition, at):
                    lots.append(names)
        self.assertEqual(bars(system, edition, at), tuple(sorted(lots)), str(system))


class CleanPaperTest(unittest.TestCase):
    def setUp(self):
        self.system = made("m 3", DEEDS, "do pay undo rest", street="none", starts=["0", "2"])
        self.paper = clean_paper(self.system, 0, 0)

    def holds(self, *rows):
        return clean_holds(self.system, 0, 0, rows)

    def test_all_triples_are_there(self):
        self.assertEqual(sorted(self.paper), [((0,), (2,), "ok 2"), ((1,), (0,), "ok 0")])
        self.assertIs(self.holds(*self.paper), True)
        self.assertIs(self.holds(*self.paper[::-1]), True)
        self.assertIs(self.holds(*self.paper, *self.paper), True)
        self.assertIs(self.holds(*self.paper, ((2,), (1,), "ok 1")), True)
        for triple in self.paper:
            self.assertIs(self.holds(triple), False)
        self.assertIs(self.holds(), False)

    def test_triples_that_the_street_leads_to(self):
        system = made("m 3", DEEDS.replace("put: m to 1", "turn: m by 1"), "do none", street="turn")
        paper = clean_paper(system, 0, 0)
        self.assertEqual(len(paper), 3)
        for triple in paper:
            self.assertIs(clean_holds(system, 0, 0, tuple(row for row in paper if row != triple)), False)
        still = system.with_street([])
        self.assertIs(clean_holds(still, 0, 0, paper[:1]), True)
        self.assertIs(clean_holds(still, 0, 0, paper), True)
        self.assertIs(clean_holds(system, 0, 0, paper[:1]), False)
        # A triple that does not come about must be led on, too.
        low = made("m 3", "none: nothing; up: needs m 1, m to 2", "do none", street="up")
        self.assertIs(clean_holds(low, 0, 0, (((0,), (0,), "ok"),)), True)
        self.assertIs(clean_holds(low, 0, 0, (((0,), (0,), "ok"), ((1,), (1,), "ok"))), False)
        self.assertIs(clean_holds(low, 0, 0, (((0,), (0,), "ok"), ((1,), (1,), "ok"), ((2,), (2,), "ok"))), True)

    def test_triples_at_which_taking_back_is_wrong(self):
        self.assertFalse(self.holds(*self.paper, ((2,), (1,), "ok 0")))
        self.assertFalse(self.holds(*self.paper, ((0,), (0,), "ok 2")))
        stuck = made("m 3", DEEDS, "do zero undo want")
        self.assertIsNone(clean_paper(stuck, 0, 0))
        self.assertFalse(clean_holds(stuck, 0, 0, pairs(stuck, 0, 0)))
        left = made("m 3", DEEDS, "do pay")
        self.assertFalse(clean_holds(left, 0, 0, pairs(left, 0, 0)))

    def test_forms(self):
        for row in (((1,), (0,), "ok 3"), ((1,), (0,), "ok"), ((1,), (0,), "no"), ((1,), (0,), "ok 0 0"), ((1,), (0,)),
                    ((3,), (0,), "ok 0"), ((1,), (True,), "ok 1"), ([1], (0,), "ok 0"), [(1,), (0,), "ok 0"],
                    ((1, 0), (0, 0), "ok 0"), ((1,), (0,), "ok 0", None), ((2,), (1,), "ok 01")):
            self.assertIs(self.holds(*self.paper, row), False, row)
        self.assertIs(clean_holds(self.system, 0, 0, list(self.paper)), False)
        self.assertIs(clean_holds(self.system, 0, 0, self.paper), True)

    def test_any_values(self):
        right = [repr([(there,), (told,), "ok %d" % told]) for there in range(3) for told in range(3)]
        for value in any_values():
            self.assertIs(clean_holds(self.system, 0, 0, value), False)
            self.assertIs(self.holds(*self.paper, value), False)
            for at in range(3):
                row = list(self.paper[0])
                row[at] = value
                # (A tuple with True is equal to one with 1, but is no scene.)
                self.assertIs(self.holds(*self.paper, tuple(row)), repr(row) in right, row)
        never = made("m 3", DEEDS, "do want undo none")
        for value in any_values():
            self.assertIs(clean_holds(never, 0, 0, value), isinstance(value, tuple) and value == ())

    def test_bools_are_no_values_of_scenes(self):
        paper = tuple((tuple(value == 1 for value in there), without, answer) for there, without, answer in self.paper)
        self.assertEqual(paper[1], self.paper[1])
        self.assertIs(clean_holds(KEYED, 0, 0, paper), False)
        self.assertIs(self.holds(*paper), False)


if __name__ == "__main__":
    unittest.main()
