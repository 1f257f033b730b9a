import unittest

from asneverbegun.harms import harms
from asneverbegun.opposites import clean
from asneverbegun.pivots import backed, firm, pivots, sure_lines
from asneverbegun.plans import do_lines
from asneverbegun.systems import System
from plainly import Plainly
from samples import BARE, KEYED, made, random_system

POOR = System.read(
    str(KEYED).replace("pay: m", "pay: needs m 0, m").replace("rest key", "rest key else 3")
    .replace("start 0 0", "start 0 0\nstart 0 1")
)
DEEDS = "pay: m by 1; rest: m by 2; want: needs m 1, m to 2; none: nothing; zero: m to 0"
FIVE = {"again", "unlike", "loose", "astray", "stale"}


class PivotsTest(unittest.TestCase):
    def check(self, system, **wanted):
        """What the four functions tell of the first edition; () if nothing is wanted."""
        found = {"sure": sure_lines(system, 0), "backed": backed(system, 0), "firm": firm(system, 0),
                 "pivots": pivots(system, 0)}
        for word, lines in found.items():
            self.assertEqual(lines, wanted.get(word, ()), word)

    def test_the_examples(self):
        self.check(POOR, sure=(0,), backed=(0,), firm=(2,), pivots=(1,))

    def test_sure_lines(self):
        self.assertEqual(sure_lines(made("m 3", DEEDS, "do want/do pay/do want"), 0), (1, 2))
        self.assertEqual(sure_lines(made("m 3", DEEDS, "do want/do pay/do want", starts=["0", "1"]), 0), (1,))
        self.assertEqual(sure_lines(made("m 3", DEEDS, "do pay/do want", street="pay"), 0), (0,))
        self.assertEqual(sure_lines(made("m 3", DEEDS, "go 2/do pay"), 0), ())
        # An opposite that is answered `no` does not count.
        self.assertEqual(sure_lines(made("m 3", DEEDS, "do zero undo want/back"), 0), (0,))

    def test_backed(self):
        self.assertEqual(backed(made("m 3", DEEDS, "do pay undo rest/do none/back"), 0), (0, 1))
        self.assertEqual(backed(made("m 3", DEEDS, "do pay undo rest/end/back"), 0), ())
        self.assertEqual(backed(made("m 3", DEEDS, "do pay undo rest/sure/do none/back"), 0), (2,))
        self.assertEqual(backed(made("m 3", DEEDS, "do pay undo rest/cut k/do none/back"), 0), (2,))
        self.assertEqual(backed(made("m 3", DEEDS, "do want undo rest/do pay/back"), 0), (1,))
        self.assertEqual(backed(made("m 3", DEEDS, "do want undo rest/do pay/back", street="pay"), 0), (0, 1))
        self.assertEqual(backed(made("m 3", DEEDS, "do want undo rest else 2/end/back", starts=["0", "1"]), 0), ())

    def test_a_work_that_is_taken_back_behind_a_cut(self):
        # The second time around `want` is answered `no`, so that line 0 is taken back then, but line 2 never.
        system = made("m 3", DEEDS, "do none undo none/do want else 5/do pay/cut k/go 0/back", starts=["1"])
        self.check(system, sure=(0, 2), backed=(0,))

    def test_firm(self):
        self.check(made("m 3", DEEDS, "do pay/do none"), sure=(0, 1), firm=(0, 1, 2))
        self.check(made("m 3", DEEDS, "do pay/end"), sure=(0,), firm=(0, 1))
        self.check(made("m 3", DEEDS, "sure/cut k/go 0"), firm=(0, 1))
        self.check(made("m 3", DEEDS, "back"))
        self.check(made("m 3", DEEDS, "do pay/do want"), sure=(0, 1), firm=(0, 1, 2))
        self.check(made("m 3", DEEDS, "do pay/do want", street="pay"), sure=(0,), firm=(2,), pivots=(1,))
        self.check(made("m 3", DEEDS, "go 2/do pay/end"), firm=(2,))

    def test_firm_at_each_moment(self):
        # Line 1 is firm behind a deed that is answered `no`, but not behind the other answer.
        system = made("m 3", DEEDS, "do want else 1/do want else 3/end/end", starts=["0", "1"])
        self.check(system, sure=(), firm=(3,))

    def test_danger_behind_a_cut_and_a_sure(self):
        self.check(made("m 3", DEEDS, "do pay/sure/cut k/do want"), sure=(0, 3), firm=(0, 1, 2, 3, 4))
        self.check(made("m 3", DEEDS, "do none/sure/cut k/do want"), sure=(0,), firm=(4,))
        self.check(made("m 3", DEEDS, "do none/cut k/back"), sure=(0,))

    def test_pivots(self):
        self.check(made("m 3", DEEDS, "do none undo none/do want else 3/end/back", starts=["0", "1"]),
                   sure=(0,), backed=(0,), firm=(2,), pivots=(1,))
        # Behind line 0 `want` can be answered `no`; line 1 is firm, and so is no pivot.
        self.check(made("m 3", DEEDS, "do want else 2/do none/end", starts=["0", "1"]),
                   sure=(1,), firm=(1, 2), pivots=(0,))
        # A line that is never done is no pivot.
        self.check(made("m 3", DEEDS, "do want else 2/end/end"), firm=(2,))

    def test_each_edition_by_itself(self):
        system = System(POOR.world, [BARE.editions[0], POOR.editions[0]], POOR.starts)
        self.assertEqual((backed(system, 0), backed(system, 1)), ((), (0,)))
        self.assertEqual((firm(system, 1), pivots(system, 1), sure_lines(system, 1)), ((2,), (1,), (0,)))
        self.assertEqual((firm(edition=1, system=system), backed(edition=1, system=system)), ((2,), (0,)))

    def test_keys_make_no_difference(self):
        system = made("m 3", DEEDS, "do want key/cut k/go 0", street="pay", keys="-")
        self.check(system, sure=())
        self.assertEqual(sure_lines(system.with_street([]).with_tags([]), 0), ())

    def test_the_shape(self):
        # If no harm of the first five happens, and all backed lines are clean, nothing is stuck or left.
        seen = 0
        for seed in range(1500):
            system = random_system(seed, editions=1)
            met = set(harms(system))
            if not met & FIVE and backed(system, 0) and all(clean(system, 0, at) for at in backed(system, 0)):
                seen += 1
                self.assertFalse(met & {"stuck", "left"}, str(system))
        self.assertGreater(seen, 30)

    def test_random_systems(self):
        found = set()
        for seed in range(250):
            system = random_system(seed, size=4)
            for edition, plan in enumerate(system.editions):
                plainly = Plainly(system, edition, 250)
                if plainly.is_whole:
                    self.assertEqual(sure_lines(system, edition), plainly.sure_lines(), str(system))
                    self.assertEqual(backed(system, edition), plainly.backed(), str(system))
                    self.assertEqual(firm(system, edition), plainly.firm(), str(system))
                    self.assertEqual(pivots(system, edition), plainly.pivots(), str(system))
                    found.add((backed(system, edition) != (), pivots(system, edition) != ()))
                    self.assertTrue(set(backed(system, edition)) <= set(do_lines(plan)))
        self.assertGreaterEqual(len(found), 3)


if __name__ == "__main__":
    unittest.main()
