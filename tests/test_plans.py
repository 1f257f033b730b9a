import unittest

from asneverbegun.errors import InvalidLog, InvalidPlan, InvalidText, NoLine
from asneverbegun.plans import Plan, stand
from values import any_values

RESERVED = "do undo else go sure cut back gone end key word ok no".split()


def is_plan(lines):
    try:
        Plan(lines)
    except InvalidPlan as error:
        assert error.word == "lines"
        return False
    return True


class PlanTest(unittest.TestCase):
    def test_all_forms(self):
        lines = ["do a", "do a undo b", "do a ahead", "do a claim", "do a key", "do a ahead claim key", "do a ahead key",
                 "do a undo b claim key else 9", "do a else 16", "go 14", "sure", "cut k", "cut l", "back", "end",
                 "do abcd undo zzzz ahead claim key else 16"]
        self.assertEqual(Plan(lines).lines, tuple(lines))
        self.assertEqual(Plan(lines=tuple(lines)).lines, tuple(lines))

    def test_what_has_no_form(self):
        for line in ("", "do", "do ", "do key", "do abcde", "do a b", "do a undo", "do a undo key", "do a undo b undo b",
                     "do a key claim", "do a claim ahead", "do a key ahead", "do a key key", "do a else", "do a else x",
                     "do a else 01", "do a else 0 key", "do  a", " do a", "do a ", "do a else 1 ", "go", "go x", "go 00",
                     "go 1 1", "go -1", "sure 1", "cut", "cut cut", "cut abcde", "cut k k", "back k", "end 0", "gone",
                     "DO a", "do a\n", "do a else 10000", "go 10000", "do a undo b else", "do a word", "do a keys"):
            self.assertFalse(is_plan([line, "end"]), line)

    def test_what_is_no_sequence_of_texts(self):
        for value in any_values() + ["do a", {"do a": 1}, [["do a"]], [b"end"]]:
            self.assertFalse(is_plan(value), value)

    def test_at_least_one_line(self):
        self.assertFalse(is_plan([]))
        self.assertFalse(is_plan(()))
        self.assertTrue(is_plan(["end"]))

    def test_lines_lead_to_lines_or_behind_the_last_one(self):
        self.assertTrue(is_plan(["do a else 1"]))
        self.assertFalse(is_plan(["do a else 2"]))
        self.assertTrue(is_plan(["go 1"]))
        self.assertFalse(is_plan(["go 2"]))
        self.assertTrue(is_plan(["go 2", "end"]))
        self.assertFalse(is_plan(["end", "go 3"]))

    def test_a_name_is_cut_once(self):
        self.assertTrue(is_plan(["cut k", "cut l"]))
        self.assertFalse(is_plan(["cut k", "cut k"]))
        self.assertFalse(is_plan(["cut k", "end", "cut k"]))

    def test_rings(self):
        self.assertFalse(is_plan(["go 0"]))
        self.assertFalse(is_plan(["do a else 0"]))
        self.assertFalse(is_plan(["do a", "go 0"]))
        self.assertFalse(is_plan(["do a", "sure", "do b else 0"]))
        self.assertFalse(is_plan(["do a else 2", "end", "go 0"]))
        self.assertTrue(is_plan(["do a else 2", "back", "go 1"]))
        self.assertTrue(is_plan(["do a else 2", "end", "go 1"]))

    def test_rings_that_are_never_come_to(self):
        self.assertFalse(is_plan(["end", "go 1"]))
        self.assertFalse(is_plan(["back", "do a", "go 1"]))

    def test_rings_with_a_cut(self):
        self.assertTrue(is_plan(["do a", "cut k", "go 0"]))
        self.assertTrue(is_plan(["cut k", "go 0"]))
        self.assertTrue(is_plan(["cut k", "do a else 0", "go 0"]))
        self.assertFalse(is_plan(["cut k", "do a else 1", "go 0"]))
        self.assertFalse(is_plan(["do a else 2", "cut k", "go 0"]))
        self.assertTrue(is_plan(["do a else 3", "cut k", "go 0", "cut l", "go 0"]))

    def test_text(self):
        text = "do book undo free ahead else 3\ndo pay\nend\nback"
        plan = Plan.read(text)
        self.assertEqual((str(plan), len(plan), plan.lines), (text, 4, tuple(text.split("\n"))))
        self.assertEqual(len(Plan(["end"])), 1)

    def test_read_anything_else(self):
        for value in any_values() + ["end\n", "\nend", "do a\n\nend", "go 0", "go 5", "end\r\nend", "cut k\ncut k"]:
            with self.assertRaises(InvalidText) as caught:
                Plan.read(value)
            self.assertEqual(caught.exception.at, 0)

    def test_equal(self):
        self.assertEqual(Plan(["do a", "end"]), Plan(("do a", "end")))
        self.assertNotEqual(Plan(["do a", "end"]), Plan(["do a"]))
        for value in any_values() + ["end", ("end",), ["end"]]:
            self.assertFalse(Plan(["end"]) == value)

    def test_later_changes_have_no_effect(self):
        lines = ["do a", "end"]
        plan = Plan(lines)
        lines[0] = "back"
        self.assertEqual(str(plan), "do a\nend")

    def test_deed_opposite_gear(self):
        plan = Plan(["do a undo b ahead key else 2", "do c", "cut k", "go 4", "sure", "back", "end"])
        self.assertEqual([plan.deed(at) for at in range(7)], ["a", "c", None, None, None, None, None])
        self.assertEqual([plan.opposite(at) for at in range(7)], ["b"] + [None] * 6)
        self.assertEqual([plan.gear(at) for at in range(7)], [("ahead", "key")] + [()] * 6)
        self.assertEqual(Plan(["do a ahead claim key"]).gear(0), ("ahead", "claim", "key"))

    def test_numbers_of_no_line(self):
        plan = Plan(["do a", "end"])
        numbers = [value for value in any_values() if value is True or value is False or value not in (0, 1)]
        for at in numbers + [2, -1, 10 ** 9, "0", 0.0]:
            for method in (plan.deed, plan.opposite, plan.gear):
                with self.assertRaises(NoLine) as caught:
                    method(at)
                self.assertIs(caught.exception.at, at)
            with self.assertRaises(NoLine) as caught:
                plan.with_gear(at, ())
            self.assertIs(caught.exception.at, at)

    def test_with_gear(self):
        plan = Plan(["do a undo b claim else 2", "do c", "sure"])
        self.assertEqual(plan.with_gear(0, ["key", "ahead"]).lines[0], "do a undo b ahead key else 2")
        self.assertEqual(plan.with_gear(0, ()).lines, ("do a undo b else 2", "do c", "sure"))
        self.assertEqual(plan.with_gear(at=1, gear=("key", "claim", "ahead")).lines[1], "do c ahead claim key")
        self.assertEqual(plan.lines, ("do a undo b claim else 2", "do c", "sure"))
        with self.assertRaises(NoLine):
            plan.with_gear(2, ())


class StandTest(unittest.TestCase):
    def test_the_example(self):
        plan = Plan(["do book undo free ahead else 3", "do pay", "end", "back"])
        self.assertEqual(stand(plan, ["book ok"]), (1, False, False, ((0, "free", "ok"),)))
        self.assertEqual(stand(plan, ["book no"]), (3, False, False, ()))
        self.assertEqual(stand(plan, ["book ?"]), (0, False, True, ()))
        self.assertIsNone(stand(plan, ["pay ok"]))
        plan = Plan(["do book undo free", "back"])
        self.assertEqual(stand(plan, ["book ok", "back"]), (1, True, False, ((0, "free", "ok"),)))
        self.assertEqual(stand(plan, ["book ok", "back", "undo free ok", "gone"]), (-1, True, False, ()))

    def test_the_empty_log(self):
        self.assertEqual(stand(Plan(["do a"]), ()), (0, False, False, ()))
        self.assertEqual(stand(Plan(["go 2", "end", "go 1"]), []), (1, False, False, ()))
        self.assertEqual(stand(plan=Plan(["go 1"]), log=[]), (1, False, False, ()))

    def test_answers(self):
        plan = Plan(["do a undo b else 3", "do c", "end", "go 4", "sure"])
        self.assertEqual(stand(plan, ("a ok 1 2",)), (1, False, False, ((0, "b", "ok 1 2"),)))
        self.assertEqual(stand(plan, ["a no"]), (4, False, False, ()))
        self.assertEqual(stand(plan, ["a ok", "c no"]), (2, False, False, ((0, "b", "ok"),)))
        self.assertEqual(stand(plan, ["a ok", "c ok 9999"]), (2, False, False, ((0, "b", "ok"),)))

    def test_sure_empties_the_stack(self):
        plan = Plan(["do a undo b", "sure", "do a undo c"])
        self.assertEqual(stand(plan, ["a ok", "sure"]), (2, False, False, ()))
        self.assertEqual(stand(plan, ["a ok", "sure", "a ok"]), (3, False, False, ((2, "c", "ok"),)))

    def test_end_keeps_the_stack(self):
        plan = Plan(["do a undo b", "end"])
        self.assertEqual(stand(plan, ["a ok", "end"]), (-1, False, False, ((0, "b", "ok"),)))
        self.assertEqual(stand(Plan(["do a undo b"]), ["a ok"]), (1, False, False, ((0, "b", "ok"),)))
        self.assertEqual(stand(Plan(["do a undo b"]), ["a ok", "end"]), (-1, False, False, ((0, "b", "ok"),)))
        self.assertIsNone(stand(plan, ["a ok", "end", "end"]))

    def test_taking_back(self):
        plan = Plan(["do a undo b", "do c", "do a undo d else 3", "back"])
        log = ["a ok 1", "c ok", "a ok", "back", "undo d no", "undo b ok 7 8", "gone"]
        self.assertEqual(stand(plan, log[:3]), (3, False, False, ((0, "b", "ok 1"), (2, "d", "ok"))))
        self.assertEqual(stand(plan, log[:4]), (3, True, False, ((0, "b", "ok 1"), (2, "d", "ok"))))
        self.assertEqual(stand(plan, log[:5]), (3, True, False, ((0, "b", "ok 1"),)))
        self.assertEqual(stand(plan, log[:6]), (3, True, False, ()))
        self.assertEqual(stand(plan, log), (-1, True, False, ()))
        self.assertIsNone(stand(plan, log[:5] + ["gone"]))
        self.assertIsNone(stand(plan, log[:4] + ["undo b ok"]))
        self.assertIsNone(stand(plan, log + ["gone"]))
        self.assertIsNone(stand(plan, log[:3] + ["gone"]))
        self.assertIsNone(stand(plan, log[:3] + ["undo d ok"]))
        self.assertIsNone(stand(plan, log[:4] + ["back"]))

    def test_open_entries(self):
        plan = Plan(["do a undo b ahead", "do c undo d", "do e ahead else 3", "back"])
        self.assertEqual(stand(plan, ["a ?"]), (0, False, True, ()))
        self.assertIsNone(stand(plan, ["a ?", "a ok"]))
        self.assertIsNone(stand(plan, ["a ?", "a ?"]))
        self.assertIsNone(stand(plan, ["a ok", "c ?"]))
        self.assertIsNone(stand(plan, ["e ?"]))
        log = ["a ok 1", "c ok", "e ok", "back"]
        self.assertIsNone(stand(plan, log + ["undo d ?"]))
        stack = ((0, "b", "ok 1"),)
        self.assertEqual(stand(plan, log[:2] + ["e ?"]), (2, False, True, stack + ((1, "d", "ok"),)))
        self.assertEqual(stand(plan, log + ["undo d ok", "undo b ?"]), (3, True, True, stack))
        self.assertIsNone(stand(plan, log + ["undo d ok", "undo b ?", "undo b ok"]))
        self.assertIsNone(stand(plan, log + ["undo d ok", "undo b ok", "undo b ?"]))

    def test_logs_behind_a_cut(self):
        plan = Plan(["do a undo b", "cut k", "go 0", "cut l"])
        self.assertEqual(stand(plan, ["cut k"]), (0, False, False, ()))
        self.assertEqual(stand(plan, ["cut l"]), (4, False, False, ()))
        self.assertEqual(stand(plan, ["cut k", "a ok"]), (1, False, False, ((0, "b", "ok"),)))
        self.assertEqual(stand(plan, ["cut k", "a ok", "cut k"]), (-1, False, False, ()))
        self.assertEqual(stand(plan, ["a ok", "cut k"]), (-1, False, False, ()))
        self.assertIsNone(stand(plan, ["a ok", "cut k", "a ok"]))
        self.assertIsNone(stand(plan, ["a ok", "cut l"]))
        self.assertIsNone(stand(plan, ["cut m"]))
        self.assertIsNone(stand(plan, ["cut m", "a ok"]))
        self.assertEqual(stand(Plan(["cut k", "go 0"]), ["cut k", "cut k"]), (-1, False, False, ()))
        self.assertEqual(stand(Plan(["cut k", "go 0"]), ["cut k"]), (0, False, False, ()))

    def test_other_entries_at_the_wrong_place(self):
        plan = Plan(["do a", "sure", "back"])
        for log in (["sure"], ["back"], ["end"], ["gone"], ["undo a ok"], ["b ok"], ["a ok", "a ok"], ["a ok", "back"]):
            self.assertIsNone(stand(plan, log))

    def test_what_is_no_entry(self):
        good = ["a ok", "a no", "a ?", "undo a ok 0 12 9999", "sure", "cut k", "back", "gone", "end", "undo a ?",
                "undo a no"]
        bad = ["", "a", "a yes", "a ok 01", "a ok 10000", "a ok  1", "a ok -1", "a ok ", "a no 1", "a ? ", "key ok", "do a",
               "undo a", "undo", "undo key ok", "undo undo ok", "cut", "cut key", "cut k k", "sure 1", "abcde ok", "a okay",
               " a ok", "A ok", "a ok\n", "undo a", "gone ok", "end ?", "cut ok", "cut k ok", "back no", "a ok ?", "undo  a ok"]
        for entry in bad + [value for value in any_values() if value != "ok 1"] + ["ok 1"]:
            for before in ([], ["a ok"], good):
                with self.assertRaises(InvalidLog, msg=repr(entry)) as caught:
                    stand(Plan(["end"]), before + [entry, 5])
                self.assertEqual(caught.exception.at, len(before))
        self.assertIsNone(stand(Plan(["end"]), good))

    def test_what_is_no_sequence(self):
        for log in any_values():
            if not isinstance(log, (list, tuple)):
                with self.assertRaises(InvalidLog) as caught:
                    stand(Plan(["end"]), log)
                self.assertEqual(caught.exception.at, 0)
        for log in ("end", {"end": 1}):
            with self.assertRaises(InvalidLog):
                stand(Plan(["end"]), log)

    def test_arguments_do_not_change(self):
        log = ["cut k", "a ok"]
        stand(Plan(["cut k", "do a"]), log)
        self.assertEqual(log, ["cut k", "a ok"])


if __name__ == "__main__":
    unittest.main()
