import unittest

from asneverbegun.errors import InvalidDeed, InvalidScene, InvalidText, InvalidWorld, NoName
from asneverbegun.worlds import Deed, World, done, told
from values import OBJECTS, any_values

RESERVED = "do undo else go sure cut back gone end key word ok no".split()


def word_of(error, call, *args, **more):
    """The word of the error that a call raises."""
    try:
        call(*args, **more)
    except error as raised:
        return raised.word
    return None


class DeedTest(unittest.TestCase):
    def test_attributes_are_ascending_tuples(self):
        deed = Deed("book", [("m", 1), ("a", 0)], [("m", "by", 2), ("a", "to", 0), ("b", "back", 0)], ["m", "a"])
        self.assertEqual(deed.name, "book")
        self.assertEqual(deed.needs, (("a", 0), ("m", 1)))
        self.assertEqual(deed.sets, (("a", "to", 0), ("b", "back", 0), ("m", "by", 2)))
        self.assertEqual(deed.tells, ("a", "m"))

    def test_defaults_are_empty(self):
        deed = Deed("a")
        self.assertEqual((deed.needs, deed.sets, deed.tells), ((), (), ()))
        self.assertEqual(str(deed), "deed a: nothing")

    def test_by_parameter_names(self):
        deed = Deed(tells=("a",), sets=(("a", "to", 1),), needs=(("a", 0),), name="zzzz")
        self.assertEqual(str(deed), "deed zzzz: needs a 0, a to 1, tells a")

    def test_names(self):
        for name in ("a", "zz", "abcd", "to", "by", "deed"):
            self.assertEqual(Deed(name).name, name)
        for name in RESERVED + ["", "abcde", "A", "a1", "a b", "\u00e9", "a\n"]:
            self.assertEqual(word_of(InvalidDeed, Deed, name), "name", name)

    def test_wrong_needs(self):
        for value in ([("a", -1)], [("a", True)], [("a", "0")], [("a", 0), ("a", 1)], [["a", 0]], [("a",)],
                      [("key", 0)], [("a", 0, 0)], "ab", {"a": 0}, [([], 0)], ["a0"]):
            self.assertEqual(word_of(InvalidDeed, Deed, "a", value), "needs", value)
        self.assertEqual(Deed("a", [("a", 10 ** 20)]).needs, (("a", 10 ** 20),))

    def test_wrong_sets(self):
        for value in ([("a", "to", -1)], [("a", "by", 0)], [("a", "back", 1)], [("a", "to", True)], [("a", "up", 1)],
                      [("a", "to", 1), ("a", "by", 1)], [["a", "to", 1]], [("a", "to")], [("go", "to", 1)], [None],
                      [("a", "back", False)], [("a", True, 0)], [("a", ["to"], 0)], [("a", "by", None)]):
            self.assertEqual(word_of(InvalidDeed, Deed, "a", (), value), "sets", value)
        self.assertEqual(Deed("a", (), [("a", "to", 0)]).sets, (("a", "to", 0),))

    def test_wrong_tells(self):
        for value in (["a", "a"], ["no"], [1], "a", [["a"]], [("a",)], [None]):
            self.assertEqual(word_of(InvalidDeed, Deed, "a", (), (), value), "tells", value)

    def test_the_first_wrong_parameter(self):
        self.assertEqual(word_of(InvalidDeed, Deed, 1, 1, 1, 1), "name")
        self.assertEqual(word_of(InvalidDeed, Deed, "a", 1, 1, 1), "needs")
        self.assertEqual(word_of(InvalidDeed, Deed, "a", (), 1, 1), "sets")
        self.assertEqual(word_of(InvalidDeed, Deed, "a", (), (), 1), "tells")
        self.assertEqual(word_of(InvalidDeed, Deed, tells=1, name="key"), "name")

    def test_any_values(self):
        for value in any_values():
            for at, word in enumerate(("name", "needs", "sets", "tells")):
                args = ["a", (), (), ()]
                args[at] = value
                self.assertIn(word_of(InvalidDeed, Deed, *args), (None, word))

    def test_later_changes_have_no_effect(self):
        needs, sets, tells = [("a", 0)], [("a", "to", 1)], ["a"]
        deed = Deed("b", needs, sets, tells)
        self.assertEqual((needs, sets, tells), ([("a", 0)], [("a", "to", 1)], ["a"]))
        needs.append(("b", 1))
        sets.clear()
        tells[0] = "c"
        self.assertEqual(str(deed), "deed b: needs a 0, a to 1, tells a")

    def test_text(self):
        deed = Deed("x", [("b", 2), ("a", 0)], [("c", "back", 0), ("b", "by", 3), ("a", "to", 0)], ["d", "a"])
        self.assertEqual(str(deed), "deed x: needs a 0, needs b 2, a to 0, b by 3, c back, tells a, tells d")

    def test_read_is_the_inverse(self):
        for text in ("deed a: nothing", "deed x: needs a 0, needs b 2, a to 0, b by 3, c back, tells a, tells d",
                     "deed to: to to 1", "deed by: needs to 9999, by by 9999"):
            self.assertEqual(str(Deed.read(text)), text)

    def test_read_takes_parts_in_any_order(self):
        self.assertEqual(str(Deed.read("deed x: tells b, c back, a to 1, needs a 0, tells a")),
                         "deed x: needs a 0, a to 1, c back, tells a, tells b")

    def test_read_anything_else(self):
        for text in ("", "deed", "deed a", "deed a:", "deed a: ", "deed a:  nothing", "deed key: nothing",
                     "a: nothing", "died a: nothing",
                     "deed a: nothing, tells a", "deed a: b to 01", "deed a: b to 10000", "deed a: b to +1",
                     "deed a: b by 0", "deed a: b back 0", "deed a: b up 1", "deed a: b to 1,c to 1", "deed a: b  to 1",
                     "deed a: b to 1, b to 1", "deed a: tells b, tells b", "deed a: needs b 1, needs b 2",
                     "deed a: b to 1 ", " deed a: nothing", "deed a: nothing\n", "deed a: b to \u00b2", "deed a: needs b",
                     "deed a: tells", "deed a: back", "deed a: b to", "deed abcde: nothing", "deed a: needs b 00"):
            with self.assertRaises(InvalidText) as caught:
                Deed.read(text)
            self.assertEqual(caught.exception.at, 0)
        for value in any_values():
            with self.assertRaises(InvalidText):
                Deed.read(value)

    def test_greater_numbers_have_no_text(self):
        deed = Deed("a", (), [("b", "to", 10000)])
        self.assertEqual(str(deed), "deed a: b to 10000")
        with self.assertRaises(InvalidText):
            Deed.read(str(deed))

    def test_equal(self):
        self.assertEqual(Deed("a", [("a", 0), ("b", 1)]), Deed("a", (("b", 1), ("a", 0))))
        self.assertNotEqual(Deed("a"), Deed("b"))
        self.assertNotEqual(Deed("a", (), [("a", "to", 1)]), Deed("a", (), [("a", "by", 1)]))
        for value in [str(Deed("a"))] + any_values():
            self.assertFalse(Deed("a") == value)

    def test_not_iterable(self):
        for value in OBJECTS:
            with self.assertRaises(TypeError):
                list(value)


class WorldTest(unittest.TestCase):
    def setUp(self):
        self.deeds = [Deed("book", [("a", 0)], [("a", "to", 1)], ["m"]), Deed("pay", (), [("m", "by", 2)])]
        self.world = World([("m", 3), ("a", 2)], self.deeds)

    def test_attributes(self):
        self.assertEqual(self.world.cells, (("m", 3), ("a", 2)))
        self.assertEqual(self.world.deeds, tuple(self.deeds))
        self.assertEqual(World(deeds=(), cells=(("a", 2),)).deeds, ())

    def test_later_changes_have_no_effect(self):
        cells = [("a", 2)]
        world = World(cells, [])
        cells.append(("b", 2))
        self.assertEqual(world.scenes(), ((0,), (1,)))

    def test_wrong_cells(self):
        for value in ([], (), [("a", 1)], [("a", 5)], [("a", True)], [("a", "2")], [("a", 2), ("a", 3)], [["a", 2]],
                      [("key", 2)], [("a",)], "a2", [("a", 2, 2)], [(["a"], 2)]):
            self.assertEqual(word_of(InvalidWorld, World, value, []), "cells", value)
        for value in any_values():
            self.assertEqual(word_of(InvalidWorld, World, value, []), "cells")

    def test_wrong_deeds(self):
        for deed in (Deed("d", [("b", 0)]), Deed("d", (), [("b", "to", 0)]), Deed("d", (), (), ["b"]),
                     Deed("d", [("a", 2)]), Deed("d", (), [("a", "to", 2)]), Deed("d", (), [("a", "by", 2)]),
                     Deed("d", (), [("b", "back", 0)])):
            self.assertEqual(word_of(InvalidWorld, World, [("a", 2)], [deed]), "deeds", str(deed))
        for value in ([Deed("d"), Deed("d")], [str(Deed("d"))], Deed("d"), [[Deed("d")]]):
            self.assertEqual(word_of(InvalidWorld, World, [("a", 2)], value), "deeds")
        for value in any_values():
            self.assertIn(word_of(InvalidWorld, World, [("a", 2)], value), (None, "deeds"))

    def test_the_first_wrong_parameter(self):
        self.assertEqual(word_of(InvalidWorld, World, [], None), "cells")
        self.assertEqual(word_of(InvalidWorld, World, deeds=None, cells=None), "cells")

    def test_greatest_numbers(self):
        deed = Deed("d", [("a", 3)], [("a", "by", 3)])
        self.assertEqual(World([("a", 4)], [deed]).deeds, (deed,))

    def test_deed(self):
        self.assertIs(self.world.deed("pay"), self.deeds[1])
        for name in any_values() + ["payy", ["pay"], ("pay",)]:
            with self.assertRaises(NoName) as caught:
                self.world.deed(name)
            self.assertIs(caught.exception.name, name)

    def test_scenes(self):
        self.assertEqual(self.world.scenes(), ((0, 0), (0, 1), (1, 0), (1, 1), (2, 0), (2, 1)))


class DoneTest(unittest.TestCase):
    def setUp(self):
        deeds = [
            Deed("book", [("a", 0)], [("a", "to", 1)], ["m"]),
            Deed("pay", (), [("m", "by", 2)]),
            Deed("all", [("a", 1), ("m", 2)], [("a", "by", 1), ("m", "to", 0)], ["m", "a"]),
            Deed("red", [("a", 1)], [("a", "back", 0), ("m", "back", 0)], ["a"]),
        ]
        self.world = World([("m", 3), ("a", 2)], deeds)

    def test_the_example(self):
        world = World([("a", 2), ("m", 3)], [Deed("book", [("a", 0)], [("a", "to", 1)], ["m"]),
                                             Deed("pay", (), [("m", "by", 2)])])
        self.assertEqual(done(world, (0, 2), "book"), ("ok 2", (1, 2)))
        self.assertEqual(done(world, (1, 2), "book"), ("no", (1, 2)))
        self.assertEqual(done(world, (1, 2), "pay"), ("ok", (1, 1)))
        self.assertEqual(told(world, "book", "ok 2"), (("m", 2),))
        self.assertEqual(str(world.deed("book")), "deed book: needs a 0, a to 1, tells m")

    def test_values_are_told_as_they_were_ascending_by_cells(self):
        self.assertEqual(done(self.world, (2, 1), "all"), ("ok 1 2", (0, 0)))

    def test_one_needed_value_that_lacks_is_enough_for_no(self):
        self.assertEqual(done(self.world, (2, 0), "all"), ("no", (2, 0)))
        self.assertEqual(done(self.world, (1, 1), "all"), ("no", (1, 1)))

    def test_by_goes_round(self):
        self.assertEqual([done(self.world, (m, 0), "pay")[1] for m in range(3)], [(2, 0), (0, 0), (1, 0)])

    def test_back_sets_what_was_told_or_stays(self):
        self.assertEqual(done(self.world, (2, 1), "red"), ("ok 1", (2, 1)))
        self.assertEqual(done(self.world, (2, 1), "red", [("m", 1)]), ("ok 1", (1, 1)))
        self.assertEqual(done(self.world, (2, 1), "red", (("a", 0), ("m", 0))), ("ok 1", (0, 0)))
        self.assertEqual(done(self.world, (2, 0), "red", (("m", 0),)), ("no", (2, 0)))
        self.assertEqual(done(self.world, scene=(1, 0), name="pay", old=(("m", 0),)), ("ok", (0, 0)))

    def test_what_is_no_scene(self):
        for scene in any_values() + [(0,), (0, 0, 0), [0, 0], (3, 0), (0, 2), (0, -1), (True, 0), (0, False), ("0", 0)]:
            with self.assertRaises(InvalidScene):
                done(self.world, scene, "nobody")

    def test_what_is_no_name(self):
        for name in any_values() + ["red "]:
            with self.assertRaises(NoName) as caught:
                done(self.world, (0, 0), name)
            self.assertIs(caught.exception.name, name)

    def test_told(self):
        self.assertEqual(told(self.world, "all", "ok 1 2"), (("a", 1), ("m", 2)))
        self.assertEqual(told(self.world, "all", "no"), ())
        self.assertEqual(told(self.world, "pay", "ok"), ())
        self.assertEqual(told(self.world, name="red", answer="ok 1"), (("a", 1),))

    def test_told_goes_as_far_as_both(self):
        self.assertEqual(told(self.world, "all", "ok 1"), (("a", 1),))
        self.assertEqual(told(self.world, "all", "ok"), ())
        self.assertEqual(told(self.world, "book", "ok 1 2 3"), (("m", 1),))
        self.assertEqual(told(self.world, "pay", "ok 5"), ())


if __name__ == "__main__":
    unittest.main()
