import unittest

from asneverbegun.errors import InvalidPlan, InvalidSystem, InvalidText, InvalidWorld
from asneverbegun.plans import Plan
from asneverbegun.systems import System
from asneverbegun.worlds import Deed, World
from samples import BARE, KEYED, TEXT, random_system
from values import any_values

DEEDS = [
    Deed("a", (), [("x", "by", 1)], ["x"]),
    Deed("b", (), [("x", "back", 0)]),
    Deed("c", [("y", 0)], [("y", "to", 1)]),
]
WORLD = World([("x", 3), ("y", 2)], DEEDS)
PLAN = Plan(["do a undo b ahead else 2", "do c undo a", "back"])


def word_of(*args, **more):
    """The word of the error that the system with these arguments raises."""
    try:
        System(*args, **more)
    except InvalidSystem as error:
        return error.word
    return None


def line_of(text):
    """The number of the line that has no form."""
    try:
        System.read(text)
    except InvalidText as error:
        return error.at
    return None


class SystemTest(unittest.TestCase):
    def setUp(self):
        self.system = System(WORLD, [PLAN, Plan(["end"])], [(2, 1), (0, 0)], ["c", "a"], ["word", "cut"])

    def test_attributes(self):
        system = self.system
        self.assertIs(system.world, WORLD)
        self.assertEqual(system.editions, (PLAN, Plan(["end"])))
        self.assertEqual(system.starts, ((0, 0), (2, 1)))
        self.assertEqual(system.street, ("a", "c"))
        self.assertEqual(system.tags, ("cut", "word"))
        self.assertIsInstance(system.editions, tuple)

    def test_defaults_and_parameter_names(self):
        system = System(starts=[(0, 0)], editions=(PLAN,), world=WORLD)
        self.assertEqual((system.street, system.tags), ((), ()))
        system = System(WORLD, [PLAN], [(0, 0)], tags=("cut",), street=("a",))
        self.assertEqual((system.street, system.tags), (("a",), ("cut",)))

    def test_later_changes_have_no_effect(self):
        editions, starts, street, tags = [PLAN], [(0, 0)], ["a"], ["cut"]
        system = System(WORLD, editions, starts, street, tags)
        for rows in (editions, starts, street, tags):
            rows.clear()
        self.assertEqual(system, System(WORLD, [PLAN], [(0, 0)], ["a"], ["cut"]))

    def test_wrong_editions(self):
        for lines in (["do d"], ["do a undo d"], ["do b"], ["do c undo b"], ["end", "do d"]):
            self.assertEqual(word_of(WORLD, [PLAN, Plan(lines)], [(0, 0)]), "editions", lines)
        for value in ([], (), PLAN, [str(PLAN)], [[PLAN]], None):
            self.assertEqual(word_of(WORLD, value, [(0, 0)]), "editions", value)
        self.assertIsNone(word_of(WORLD, [Plan(["do a undo b"])], [(0, 0)]))
        self.assertIsNone(word_of(WORLD, [Plan(["do c undo c"])], [(0, 0)]))

    def test_wrong_starts(self):
        for value in ([], [(0, 0), (0, 0)], [[0, 0]], [(0, 2)], [(3, 0)], [(0,)], (0, 0), [(True, 0)], [(0, -1)], [None]):
            self.assertEqual(word_of(WORLD, [PLAN], value), "starts", value)

    def test_wrong_streets(self):
        for value in (["d"], ["a", "a"], ["b"], "a", [["a"]], [None], {"a"}):
            self.assertEqual(word_of(WORLD, [PLAN], [(0, 0)], value), "street", value)

    def test_wrong_tags(self):
        for value in (["cut", "cut"], ["key"], "cut", "", [None], [["cut"]]):
            self.assertEqual(word_of(WORLD, [PLAN], [(0, 0)], (), value), "tags", value)

    def test_the_first_wrong_parameter(self):
        right = [WORLD, [PLAN], [(0, 0)], [], []]
        for at, word in enumerate(("world", "editions", "starts", "street", "tags")):
            self.assertEqual(word_of(*right[:at], *[None] * (5 - at)), word)

    def test_any_values(self):
        right = [WORLD, [PLAN], [(0, 0)], [], []]
        for value in any_values():
            for at, word in enumerate(("world", "editions", "starts", "street", "tags")):
                args = right[:at] + [value] + right[at + 1:]
                # Another world of the package has not the deeds of this plan.
                words = (word, "editions") if word == "world" else (None, word)
                self.assertIn(word_of(*args), words)

    def test_with(self):
        system = self.system
        other = system.with_editions((Plan(["do c"]),))
        self.assertEqual(other, System(WORLD, [Plan(["do c"])], system.starts, system.street, system.tags))
        self.assertEqual(system.with_street([]), System(WORLD, system.editions, system.starts, [], system.tags))
        self.assertEqual(system.with_tags(tags=["word"]).tags, ("word",))
        self.assertEqual(system.with_street(street=("c",)).street, ("c",))
        self.assertEqual(str(self.system), str(System(WORLD, [PLAN, Plan(["end"])], [(0, 0), (2, 1)], ["a", "c"],
                                                     ["cut", "word"])))

    def test_with_any_values(self):
        rows = [(self.system.with_editions, "editions"), (self.system.with_street, "street"), (self.system.with_tags, "tags")]
        for value in any_values():
            for method, word in rows:
                try:
                    method(value)
                except InvalidSystem as error:
                    self.assertEqual(error.word, word)
        for value in (None, 0, [0], "a", [["a"]], [PLAN, None]):
            for method, word in rows:
                with self.assertRaises(InvalidSystem) as caught:
                    method(value)
                self.assertEqual(caught.exception.word, word)

    def test_with_gears(self):
        system = self.system.with_gears(0, [["key", "claim"], ()])
        self.assertEqual(system.editions[0].lines, ("do a undo b claim key else 2", "do c undo a", "back"))
        self.assertEqual(system.editions[1], Plan(["end"]))
        self.assertEqual(self.system.with_gears(edition=1, gears=()), self.system)
        two = self.system.with_editions([Plan(["end"]), PLAN]).with_gears(1, ((), ("ahead",)))
        self.assertEqual(two.editions[1].lines, ("do a undo b else 2", "do c undo a ahead", "back"))

    def test_equal(self):
        self.assertEqual(BARE, System.read(TEXT))
        self.assertNotEqual(BARE, KEYED)
        self.assertNotEqual(BARE, BARE.with_tags(["cut"]))
        for value in any_values() + [TEXT]:
            self.assertFalse(BARE == value)


class TextTest(unittest.TestCase):
    def test_text(self):
        self.assertEqual(str(BARE), TEXT)
        system = System(WORLD, [PLAN, Plan(["end"])], [(2, 1), (0, 0)], ["c", "a"], ["word"])
        self.assertEqual(str(system), "\n".join([
            "cells x 3, y 2", "keys word", "start 0 0", "start 2 1", "street a c", "deed a: x by 1, tells x",
            "deed b: x back", "deed c: needs y 0, y to 1", "edition", "do a undo b ahead else 2", "do c undo a", "back",
            "edition", "end",
        ]))
        self.assertIn("\nkeys -\nstart 0 0\nstreet -\n", str(System(WORLD, [PLAN], [(0, 0)])))

    def test_read_is_the_inverse(self):
        for seed in range(100):
            system = random_system(seed)
            self.assertEqual(str(System.read(str(system))), str(system))

    def test_any_order(self):
        text = str(System(WORLD, [PLAN], [(2, 1), (0, 0)], ["c", "a"], ["word", "cut"]))
        other = text.replace("start 0 0\nstart 2 1", "start 2 1\nstart 0 0").replace("cut word", "word cut")
        other = other.replace("street a c", "street c a").replace("x by 1, tells x", "tells x, x by 1")
        self.assertEqual(str(System.read(other)), text)

    def test_no_string(self):
        for value in any_values():
            self.assertEqual(line_of(value), 0)

    def test_the_first_line_that_has_no_form(self):
        lines = TEXT.split("\n")
        wrong = ["cell a 2", "keys", "start 0 a", "street", "deed book: x", "deed free a to 0", "deed pay: m by 0",
                 "deed", "editions", "do book undo", "do pay undo rest else", "ends", "back 1"]
        self.assertEqual(len(wrong), len(lines))
        for at, line in enumerate(wrong):
            self.assertEqual(line_of("\n".join(lines[:at] + [line] + lines[at + 1:])), at, line)
            self.assertEqual(line_of("\n".join(lines[:at] + [line] + wrong[at + 1:])), at, line)
            self.assertEqual(line_of("\n".join(lines[:at] + [""] + lines[at:])), at, line)

    def test_forms_of_single_lines(self):
        for at, line in [(0, "cells"), (0, "cells "), (0, "cells a"), (0, "cells a 2,m 3"), (0, "cells key 2"),
                         (0, "cells a 02"), (0, "cells a 2, "), (0, "cells a 2 m 3"), (0, " cells a 2"), (0, "cells a 20000"),
                         (1, "keys cut key"), (1, "keys - cut"), (1, "keys  cut"), (1, "keys cut "), (1, "key cut"),
                         (1, "keys cut,word"), (2, "start"), (2, "start 00 0"), (2, "start 0  0"), (2, "start 0 10000"),
                         (2, "start -"), (2, "start 0 0 "), (3, "street key"), (3, "street abcde"), (3, "street - book"),
                         (3, "street book  pay"), (3, "street Book"), (3, "start 0 1 2 a")]:
            lines = TEXT.split("\n")
            lines[at] = line
            self.assertEqual(line_of("\n".join(lines)), at, line)

    def test_lines_at_the_wrong_place(self):
        lines = TEXT.split("\n")
        for at in range(len(lines)):
            for line in (lines[0], lines[1], lines[3]):
                text = "\n".join(lines[:at] + [line] + lines[at:])
                same = lines[at] == line
                self.assertEqual(line_of(text), at + 1 if same else at)
        self.assertEqual(line_of("\n".join(lines[:2] + lines[3:])), 2)
        self.assertEqual(line_of("\n".join(lines[:4] + lines[8:])), 4)
        self.assertEqual(line_of("\n".join(lines[:8] + lines[9:])), 8)
        self.assertEqual(line_of("\n".join(lines[:9] + ["edition"] + lines[9:])), 9)
        self.assertEqual(line_of("\n".join(lines + ["deed x: nothing"])), len(lines))

    def test_something_is_lacking_at_the_end(self):
        lines = TEXT.split("\n")
        for size in range(1, 10):
            self.assertEqual(line_of("\n".join(lines[:size])), size)
        self.assertIsNone(line_of("\n".join(lines[:10] + ["end", "end", "end"])))
        self.assertEqual(line_of(TEXT + "\nedition"), len(lines) + 1)
        self.assertEqual(line_of(TEXT + "\n"), len(lines))
        self.assertEqual(line_of(""), 0)

    def test_then_the_other_errors(self):
        for old, new, error, word in [
            ("a 2, m 3", "a 2, m 5", InvalidWorld, "cells"), ("a 2, m 3", "a 2, a 3", InvalidWorld, "cells"),
            ("m by 2", "m by 3", InvalidWorld, "deeds"), ("deed rest", "deed pay", InvalidWorld, "deeds"),
            ("m by 2", "n by 2", InvalidWorld, "deeds"), ("else 3", "else 0", InvalidPlan, "lines"),
            ("else 3", "else 5", InvalidPlan, "lines"), ("end\nback", "cut k\ncut k", InvalidPlan, "lines"),
            ("do pay", "do none", InvalidSystem, "editions"), ("start 0 0", "start 0 3", InvalidSystem, "starts"),
            ("start 0 0", "start 0", InvalidSystem, "starts"), ("start 0 0", "start 0 0\nstart 0 0", InvalidSystem, "starts"),
            ("street -", "street none", InvalidSystem, "street"), ("street -", "street pay pay", InvalidSystem, "street"),
            ("m by 2", "m back", InvalidSystem, "editions"),
        ]:
            self.assertIn(old, TEXT)
            with self.assertRaises(error) as caught:
                System.read(TEXT.replace(old, new))
            self.assertEqual(caught.exception.word, word)

    def test_the_order_of_errors(self):
        wrong = TEXT.replace("a 2, m 3", "a 2, m 9").replace("else 3", "else 0").replace("street -", "street none")
        with self.assertRaises(InvalidWorld):
            System.read(wrong)
        with self.assertRaises(InvalidPlan):
            System.read(wrong.replace("m 9", "m 3"))
        with self.assertRaises(InvalidSystem):
            System.read(wrong.replace("m 9", "m 3").replace("else 0", "else 3"))
        self.assertEqual(line_of(wrong + "\nx"), 13)

    def test_no_deeds(self):
        system = System(World([("x", 2)], []), [Plan(["end"])], [(0,)])
        self.assertEqual(str(system), "cells x 2\nkeys -\nstart 0\nstreet -\nedition\nend")
        self.assertEqual(line_of(str(system)), 4)

    def test_not_changed_by_reading(self):
        self.assertEqual(str(System.read(text=TEXT)), TEXT)


if __name__ == "__main__":
    unittest.main()
