import random
import unittest
from fractions import Fraction

from asneverbegun.errors import InvalidTimes
from asneverbegun.gears import enough, least_gears
from asneverbegun.harms import sound
from asneverbegun.memories import late_ages, least_memory
from asneverbegun.plans import do_lines
from asneverbegun.systems import System
from asneverbegun.times import (
    Times, can_stray, gears_under, greatest_hold, late_entries, lateness, least_keeping, least_lease, memory_under,
    stray, stray_holds,
)
from samples import KEYED, LIGHT, made, random_system
from values import any_values

NEAR, TIGHT = Times(18, 10, 5, 1, (1, 10)), Times(16, 10, 5, 1, (1, 10))
SHELF = System.read(
    "cells a 2\nkeys cut word\nstart 0\nstreet -\ndeed put: a to 1\ndeed off: a to 0\nedition\n"
    "do put undo off else 2\nback\nend"
)
DRIFTS = ((0, 1), (1, 10), (1, 2), (1, 3), (2, 7), (1, 1000000), (499999, 1000000))


def pair(value):
    return value.numerator, value.denominator


def random_times(rng):
    size = rng.choice([3, 10, 50, 10 ** 9])
    row = [rng.randrange(1, size + 1), rng.randrange(1, size + 1), rng.choice([0, rng.randrange(size)])]
    return Times(*row, rng.randrange(1, size + 1), rng.choice(DRIFTS))


class TimesTest(unittest.TestCase):
    def test_attributes(self):
        times = Times(16, 10, 5, 1, (1, 10))
        self.assertEqual((times.lease, times.hold, times.way, times.entry, times.drift), (16, 10, 5, 1, (1, 10)))
        self.assertEqual(Times(1, 1, 0, 1).drift, (0, 1))
        self.assertEqual(Times(drift=(1, 2), entry=4, way=3, hold=2, lease=1), Times(1, 2, 3, 4, (1, 2)))

    def test_equal(self):
        self.assertTrue(TIGHT == Times(16, 10, 5, 1, (1, 10)))
        for other in (NEAR, Times(16, 11, 5, 1, (1, 10)), Times(16, 10, 6, 1, (1, 10)), Times(16, 10, 5, 2, (1, 10)),
                      Times(16, 10, 5, 1), Times(16, 10, 5, 1, (1, 9)), (16, 10, 5, 1, (1, 10)), None, 16):
            self.assertFalse(TIGHT == other)
            self.assertTrue(TIGHT != other)

    def wrong(self, word, *row, **more):
        with self.assertRaises(InvalidTimes) as caught:
            Times(*row, **more)
        self.assertEqual(caught.exception.word, word)

    def test_any_values(self):
        good = [3, 4, 5, 6, (1, 2)]
        for at, word in enumerate(("lease", "hold", "way", "entry", "drift")):
            for value in any_values() + [-1, 0, (0, 1), 10 ** 9]:
                row = list(good)
                row[at] = value
                is_tick = isinstance(value, int) and not isinstance(value, bool) and value >= (word != "way")
                if at < 4 and is_tick or at == 4 and value == (0, 1):
                    self.assertEqual(getattr(Times(*row), word), value)
                else:
                    self.wrong(word, *row)

    def test_the_first_one_that_is_wrong(self):
        self.wrong("lease", 0, 0, -1, 0, (1, 1))
        self.wrong("hold", 1, 0, -1, 0, (1, 1))
        self.wrong("way", 1, 1, -1, 0, (1, 1))
        self.wrong("entry", 1, 1, 0, 0, (1, 1))
        self.wrong("drift", 1, 1, 0, 1, (1, 1))

    def test_drifts(self):
        for drift in DRIFTS:
            self.assertEqual(Times(1, 1, 0, 1, drift).drift, drift)
        for drift in ((0, 2), (2, 4), (1, 1), (3, 2), (-1, 2), (1, -2), (-1, -2), (1, 0), (0, 0), (0, -1), [1, 2], (1,),
                      (1, 2, 3), (True, 2), (0, True), (False, 1), ("1", 2), (1, None), 0, "1/2", None, (10 ** 6, 10 ** 6)):
            self.wrong("drift", 1, 1, 0, 1, drift)


class StrayTest(unittest.TestCase):
    def test_the_examples(self):
        self.assertEqual((can_stray(NEAR), lateness(TIGHT), late_entries(TIGHT), least_keeping(TIGHT)),
                         (False, (155, 99), 1, 2))
        self.assertEqual((least_lease(10, 5, (1, 10)), greatest_hold(18, 5, (1, 10))), (18, 10))
        self.assertEqual(stray(TIGHT), ((9, 10), (11, 10), (160, 11), (145, 9)))
        self.assertIs(stray_holds(TIGHT, ((1, 1), (1, 1), (16, 1), (15, 1))), False)

    def test_clocks_that_run_true(self):
        times = Times(10, 10, 3, 1)
        self.assertEqual((lateness(times), can_stray(times), stray(times)), ((3, 1), True, ((1, 1), (1, 1), (10, 1), (13, 1))))
        self.assertEqual((late_entries(times), least_keeping(times)), (3, 3))

    def test_the_very_border(self):
        for times in (Times(13, 10, 3, 1), Times(3, 1, 0, 1, (1, 2)), Times(9, 2, 2, 1, (1, 2))):
            self.assertEqual((can_stray(times), lateness(times), stray(times)), (False, (0, 1), None))
            self.assertEqual((late_entries(times), least_keeping(times)), (0, 0))
            self.assertEqual(least_lease(times.hold, times.way, times.drift), times.lease)
            self.assertEqual(greatest_hold(times.lease, times.way, times.drift), times.hold)
            less = Times(times.lease - 1, times.hold, times.way, times.entry, times.drift)
            more = Times(times.lease, times.hold + 1, times.way, times.entry, times.drift)
            longer = Times(times.lease, times.hold, times.way + 1, times.entry, times.drift)
            self.assertEqual([can_stray(row) for row in (less, more, longer)], [True, True, True])

    def test_no_hold(self):
        self.assertIsNone(greatest_hold(5, 5, (0, 1)))
        self.assertEqual(greatest_hold(6, 5, (0, 1)), 1)
        self.assertIsNone(greatest_hold(1, 10 ** 9, (1, 2)))
        self.assertIsNone(greatest_hold(2, 0, (1, 2)))
        self.assertEqual(greatest_hold(3, 0, (1, 2)), 1)
        self.assertEqual(greatest_hold(drift=(0, 1), way=1, lease=9), 8)

    def test_least_lease(self):
        self.assertEqual(least_lease(1, 0, (0, 1)), 1)
        self.assertEqual(least_lease(1, 0, (1, 2)), 3)
        self.assertEqual(least_lease(1, 1, (1, 3)), 4)
        self.assertEqual(least_lease(drift=(1, 1000000), way=0, hold=1), 2)

    def test_by_fractions(self):
        strays = 0
        for seed in range(600):
            times = random_times(random.Random(seed))
            drift = Fraction(*times.drift)
            late = Fraction(times.hold) / (1 - drift) + times.way - Fraction(times.lease) / (1 + drift)
            late = max(late, Fraction(0))
            strays += late > 0
            self.assertEqual(lateness(times), pair(late))
            self.assertIs(can_stray(times), late > 0)
            self.assertEqual(late_entries(times), late // times.entry)
            self.assertEqual(least_keeping(times), -(-(late * (1 + drift)) // 1))
            self.check_stray(times, drift, late)
            self.check_least(times)
        self.assertGreater(strays, 100)

    def check_stray(self, times, drift, late):
        there = stray(times)
        if late == 0:
            self.assertIsNone(there)
        else:
            self.assertIs(stray_holds(times, there), True)
            self.assertEqual(Fraction(*there[3]) - Fraction(*there[2]), late)
            self.assertEqual(there[:2], (pair(1 - drift), pair(1 + drift)))

    def check_least(self, times):
        lease, hold = least_lease(times.hold, times.way, times.drift), greatest_hold(times.lease, times.way, times.drift)
        self.assertFalse(can_stray(Times(lease, times.hold, times.way, 1, times.drift)))
        if lease > 1:
            self.assertTrue(can_stray(Times(lease - 1, times.hold, times.way, 1, times.drift)))
        if hold is not None:
            self.assertFalse(can_stray(Times(times.lease, hold, times.way, 1, times.drift)))
        self.assertTrue(can_stray(Times(times.lease, (hold or 0) + 1, times.way, 1, times.drift)))

    def test_least_keeping(self):
        # At the last tick the answer is still kept.
        self.assertEqual(least_keeping(Times(3, 2, 2, 1)), 1)
        self.assertEqual(least_keeping(Times(3, 2, 0, 1, (1, 2))), 3)
        self.assertEqual(least_keeping(Times(3, 2, 0, 1, (1, 3))), 1)

    def test_late_entries(self):
        self.assertEqual([late_entries(Times(1, 10, 5, entry)) for entry in (1, 2, 7, 14, 15)], [14, 7, 2, 1, 0])


class StrayHoldsTest(unittest.TestCase):
    # The lease ends at 16 / keeper; the deed comes at 10 / host + 5 at the latest.
    GOOD = ((9, 10), (11, 10), (15, 1), (16, 1))

    def test_strays(self):
        for value in (self.GOOD, stray(TIGHT), ((10, 11), (11, 10), (160, 11), (16, 1)), ((9, 10), (12, 11), (15, 1), (31, 2)),
                      ((9, 10), (11, 10), (160, 11), (161, 11)), ((9, 10), (11, 10), (16, 1), (145, 9))):
            self.assertIs(stray_holds(TIGHT, value), True, value)

    def test_rates_that_no_clock_has(self):
        for value in (((8, 9), (11, 10), (15, 1), (16, 1)), ((9, 10), (10, 9), (15, 1), (16, 1)),
                      ((0, 1), (11, 10), (15, 1), (16, 1)), ((9, 10), (8, 9), (18, 1), (145, 9)),
                      ((10, 9), (11, 10), (15, 1), (16, 1))):
            self.assertIs(stray_holds(TIGHT, value), False, value)
        # (Slower keepers, and faster hosts, are let, but then the moments do not fit.)
        wide = Times(2, 10, 5, 1, (1, 10))
        self.assertIs(stray_holds(wide, ((11, 10), (9, 10), (3, 1), (14, 1))), True)
        self.assertIs(stray_holds(wide, ((6, 5), (9, 10), (3, 1), (13, 1))), False)
        self.assertIs(stray_holds(wide, ((11, 10), (4, 5), (3, 1), (14, 1))), False)

    def test_moments(self):
        for value in (((9, 10), (11, 10), (14, 1), (16, 1)), ((9, 10), (11, 10), (15, 1), (17, 1)),
                      ((9, 10), (11, 10), (15, 1), (15, 1)), ((9, 10), (11, 10), (16, 1), (15, 1)),
                      ((9, 10), (11, 10), (160, 11), (146, 9)), ((9, 10), (11, 10), (159, 11), (145, 9)),
                      ((9, 10), (11, 10), (160, 11), (160, 11))):
            self.assertIs(stray_holds(TIGHT, value), False, value)
        self.assertIs(stray_holds(NEAR, ((9, 10), (11, 10), (180, 11), (145, 9))), False)

    def test_forms(self):
        for value in (list(self.GOOD), self.GOOD[:3], self.GOOD + ((1, 1),), ((18, 20),) + self.GOOD[1:],
                      self.GOOD[:2] + ((30, 2), (16, 1)), self.GOOD[:3] + ([16, 1],), self.GOOD[:3] + ((16, True),),
                      self.GOOD[:3] + ((-16, -1),), self.GOOD[:3] + ((16, 0),), self.GOOD[:3] + (16,), (0, 0, 0, 0)):
            self.assertIs(stray_holds(TIGHT, value), False, value)
        true = Times(10, 10, 3, 1)
        self.assertIs(stray_holds(true, ((1, 1), (1, 1), (10, 1), (11, 1))), True)
        self.assertIs(stray_holds(true, ((True, 1), (1, 1), (10, 1), (11, 1))), False)
        self.assertIs(stray_holds(true, ((1, 1), (1, 1), (10, 1), (11, True))), False)

    def test_any_values(self):
        for value in any_values():
            self.assertIs(stray_holds(TIGHT, value), False)
            for at in range(4):
                self.assertIs(stray_holds(TIGHT, self.GOOD[:at] + (value,) + self.GOOD[at + 1:]), False)
                row = self.GOOD[at]
                for which in range(2):
                    other = row[:which] + (value,) + row[which + 1:]
                    wanted = isinstance(value, int) and not isinstance(value, bool) and value == row[which]
                    self.assertIs(stray_holds(TIGHT, self.GOOD[:at] + (other,) + self.GOOD[at + 1:]), wanted)


class UnderTest(unittest.TestCase):
    def test_the_examples(self):
        self.assertEqual((memory_under(KEYED, TIGHT), memory_under(KEYED, NEAR)), (1, 0))
        self.assertEqual((least_gears(SHELF), gears_under(SHELF, NEAR), gears_under(SHELF, Times(1, 10, 5, 1))),
                         ((("claim",),), ((),), (("claim",),)))

    def test_memory_under(self):
        deeds = "pay: m by 1; none: nothing; put: m to 1; zero: m to 0"
        short = made("m 3", deeds, "do pay key/do none/do none")
        for way in range(1, 7):
            self.assertEqual(memory_under(short, Times(1, 1, way, 1)), min(way, 4))
        self.assertEqual(memory_under(made("m 3", deeds, "do pay claim key"), Times(1, 9, 9, 1)), 0)
        self.assertEqual(memory_under(made("m 3", deeds, "do pay"), Times(1, 9, 9, 1)), 0)
        self.assertEqual(memory_under(made("m 3", deeds, "do put key/do pay claim key/do put"), Times(1, 9, 9, 1)), 2)

    def test_plans_that_go_round(self):
        round_one = made("m 3", "pay: m by 1; none: nothing", "do pay key/cut k/go 0")
        for most in (1, 5, 10 ** 6, 2 * 10 ** 9 - 1):
            self.assertEqual(memory_under(round_one, Times(1, most - most // 2, most // 2 + 1, 1)), most)
        # `put` is harmful only in some logs, again and again.
        deeds = "flip: a by 1; put: m to 1; clr: needs a 0, m to 0"
        system = made("m 2, a 2", deeds, "do put key/do flip claim key/do clr claim key/cut k/go 0")
        ages = late_ages(system, 0, 400)
        for most in list(range(60)) + [133, 399]:
            wanted = max([age for age in ages if age <= most], default=0)
            self.assertEqual(memory_under(system, Times(1, 1, most, 1)), wanted)
        period = 8
        self.assertEqual([age + period for age in ages if 100 < age < 200], [age for age in ages if 108 < age < 208])
        most = 10 ** 9
        self.assertEqual(most - memory_under(system, Times(1, 1, most, 1)),
                         most % period - max(age for age in ages if age % period <= most % period and age > 300) % period)

    def test_gears_under(self):
        self.assertEqual(gears_under(LIGHT, NEAR), ((),))
        self.assertEqual(gears_under(LIGHT, Times(1, 10, 5, 1)), (("claim",),))
        # `set` is harmful from the age 2 on, as `clr` is asked behind `back`.
        self.assertEqual(late_ages(LIGHT, 0, 3), (2, 3))
        self.assertEqual([gears_under(LIGHT, Times(1, 1, way, 1)) for way in (0, 1, 2)], [((),), ((),), (("claim",),)])
        self.assertEqual(gears_under(KEYED, NEAR), (("key",), ("key",)))
        geared = LIGHT.with_gears(0, [("claim", "key")])
        self.assertEqual(gears_under(geared, NEAR), ((),))

    def test_as_it_is_told(self):
        found = set()
        for seed in range(150):
            system = random_system(seed, editions=1, tags=["cut", "word"])
            for way in (0, 1, 2, 3, 9):
                times = Times(1, 1, way, 1)
                wanted = []
                for at in do_lines(system.editions[0]):
                    is_late = late_ages(system, at, way) != ()
                    if enough(system, at, ()) or enough(system, at, ("claim",)) and not is_late:
                        wanted.append(())
                    else:
                        wanted.append(("claim",) if enough(system, at, ("claim",)) else ("key",))
                    found.add(wanted[-1])
                self.assertEqual(gears_under(system, times), tuple(wanted), str(system))
                keyed = [at for at in do_lines(system.editions[0])
                         if "key" in system.editions[0].gear(at) and "claim" not in system.editions[0].gear(at)]
                ages = [age for at in keyed for age in late_ages(system, at, way)]
                self.assertEqual(memory_under(system, times), max(ages, default=0), str(system))
            if sound(system) and least_memory(system) is not None:
                self.assertEqual(memory_under(system, Times(1, 10 ** 9, 0, 1)), least_memory(system))
        self.assertEqual(found, {(), ("claim",), ("key",)})

    def test_by_keywords(self):
        self.assertEqual(memory_under(times=TIGHT, system=KEYED), 1)
        self.assertEqual(gears_under(times=NEAR, system=SHELF), ((),))
        self.assertIs(stray_holds(value=stray(times=TIGHT), times=TIGHT), True)


if __name__ == "__main__":
    unittest.main()
