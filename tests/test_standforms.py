import unittest

from asneverbegun.plans import stand
from asneverbegun.standforms import is_ok_answer, is_stand_form
from samples import made, random_system
from values import any_values

DEEDS = "pay: m by 1, tells m; rest: m back; none: nothing; both: tells m, tells a"
SYSTEM = made("m 3, a 2", DEEDS, "do pay undo rest ahead/do none undo none/go 3/back/do pay ahead", "end")
STACK = ((0, "rest", "ok 2"), (1, "none", "ok"))


class StandFormTest(unittest.TestCase):
    def fits(self, *value):
        return is_stand_form(SYSTEM, 0, value)

    def test_stands_that_come_about(self):
        plan = SYSTEM.editions[0]
        log = ["pay ok 1", "none ok", "back", "undo none ok", "undo rest ok", "gone"]
        for size in range(7):
            self.assertIs(is_stand_form(SYSTEM, 0, stand(plan, log[:size])), True)
        for log in (["pay ?"], log[:4] + ["undo rest ?"]):
            self.assertIs(is_stand_form(SYSTEM, 0, stand(plan, log)), True)

    def test_open_stands(self):
        self.assertTrue(self.fits(0, False, True, STACK))
        self.assertTrue(self.fits(4, False, True, ()))
        self.assertTrue(self.fits(3, True, True, STACK[::-1]))
        for row in ((1, False, True, ()), (3, False, True, STACK[::-1]), (3, True, True, STACK), (3, True, True, ()),
                    (-1, True, True, STACK[::-1]), (-1, False, True, STACK), (5, False, True, STACK[::-1]),
                    (2, False, True, ()), (0, True, True, STACK)):
            self.assertIs(self.fits(*row), False, row)

    def test_lines(self):
        for line in (-1, 0, 1, 3, 4, 5):
            self.assertTrue(self.fits(line, False, False, STACK))
        for line in (-2, 2, 6, True, False, "0", None):
            self.assertFalse(self.fits(line, False, False, STACK))
        self.assertTrue(is_stand_form(SYSTEM, 1, (1, False, False, ())))
        self.assertFalse(is_stand_form(SYSTEM, 1, (2, False, False, ())))

    def test_stacks(self):
        self.assertTrue(self.fits(0, False, False, STACK * 2))
        for row in ((5, "rest", "ok 2"), (-1, "rest", "ok 2"), (3, "rest", "ok 2"), (4, "rest", "ok 2"), (0, "rest", "no"),
                    (0, "rest"), (0, None, "ok 2"), (4, None, "ok 2"), (0, "none", "ok"), ("0", "rest", "ok 2")):
            self.assertFalse(self.fits(0, False, False, (row,)), row)
            self.assertFalse(self.fits(0, False, False, STACK + (row,)), row)

    def test_taking_back(self):
        for line in (-1, 3):
            self.assertTrue(self.fits(line, True, False, STACK))
        for line in (0, 1, 4, 5):
            self.assertFalse(self.fits(line, True, False, STACK))

    def test_any_values(self):
        for value in any_values():
            self.assertIs(is_stand_form(SYSTEM, 0, value), False)
            for at in range(4):
                row = [0, False, False, ()]
                row[at] = value
                wanted = at == 0 and value in (0, 1, -1) and not isinstance(value, bool)
                wanted = wanted or at == 1 and value is False or at == 2 and isinstance(value, bool)
                self.assertEqual(self.fits(*row), wanted or at == 3 and value == (), (at, value))

    def test_random_logs(self):
        for seed in range(50):
            system = random_system(seed)
            for edition, plan in enumerate(system.editions):
                self.assertTrue(is_stand_form(system, edition, stand(plan, ())))


class AnswerTest(unittest.TestCase):
    def test_answers(self):
        world = SYSTEM.world
        for name, answer in (("pay", "ok 0"), ("pay", "ok 2"), ("none", "ok"), ("both", "ok 1 2")):
            self.assertIs(is_ok_answer(world, name, answer), True)
        for name, answer in (("pay", "ok"), ("pay", "ok 3"), ("pay", "no"), ("none", "ok 0"), ("both", "ok 2 1"),
                             ("both", "ok 1"), ("pay", "ok 00"), ("pay", "ok  1"), ("pay", "yes 1"), ("none", "ok ")):
            self.assertIs(is_ok_answer(world, name, answer), False)
        for value in any_values():
            self.assertIs(is_ok_answer(world, "pay", value), value == "ok 1")


if __name__ == "__main__":
    unittest.main()
