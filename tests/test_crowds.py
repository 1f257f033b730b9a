import itertools
import unittest

from asneverbegun.crowds import crowd, streets
from asneverbegun.errors import InvalidSystem
from asneverbegun.harms import sound
from asneverbegun.systems import System
from samples import BARE, KEYED, made, random_system

POOR = System.read(
    str(KEYED).replace("pay: m", "pay: needs m 0, m").replace("rest key", "rest key else 3")
    .replace("start 0 0", "start 0 0\nstart 0 1")
)


def greatest(system):
    """The greatest lots of names with which a system is sound, by trying all of them."""
    lots = []
    for size in range(len(system.street) + 1):
        for lot in itertools.combinations(system.street, size):
            if sound(system.with_street(lot)):
                lots.append(lot)
    return tuple(sorted(lot for lot in lots if not any(set(lot) < set(more) for more in lots)))


class CrowdTest(unittest.TestCase):
    def test_the_example(self):
        self.assertEqual(
            (sound(POOR), crowd(POOR).street, sound(crowd(POOR)), streets(POOR.with_street(["book", "free"]))),
            (True, ("book", "free", "pay", "rest"), False, (("free",),)),
        )

    def test_the_street_stays_and_nothing_else_changes(self):
        deeds = "set: a to 1; clr: a to 0; far: a by 1; none: nothing"
        system = made("a 3", deeds, "do set undo clr key/sure/back", street="far none", starts=["0", "2"], keys="cut")
        made_one = crowd(system)
        self.assertEqual(made_one.street, ("clr", "far", "none", "set"))
        self.assertEqual(made_one.with_street(["far", "none"]), system)
        self.assertEqual(system.street, ("far", "none"))

    def test_deeds_of_all_editions(self):
        deeds = "set: a to 1; clr: a to 0; far: a by 1; none: nothing"
        system = made("a 2", deeds, "do set undo clr/back", "do far/do none undo far/end")
        self.assertEqual(crowd(system).street, ("clr", "far", "none", "set"))
        self.assertEqual(crowd(made("a 2", deeds, "end")).street, ())
        self.assertEqual(crowd(made("a 2", deeds, "do none", street="none")).street, ("none",))

    def test_opposites_that_set_back(self):
        deeds = "set: a to 1, tells a; off: a back; none: nothing"
        for plans in (("do set undo off/back",), ("do none", "do set undo off/back")):
            with self.assertRaises(InvalidSystem) as caught:
                crowd(made("a 2", deeds, *plans))
            self.assertEqual(caught.exception.word, "street")
        self.assertEqual(crowd(made("a 2", deeds, "do set/back")).street, ("set",))

    def test_streets(self):
        self.assertEqual(streets(BARE), ())
        self.assertEqual(streets(KEYED), ((),))
        self.assertEqual(streets(KEYED.with_street(["book"])), (("book",),))
        self.assertEqual(streets(BARE.with_street(["book"])), ())
        self.assertEqual(streets(KEYED.with_street(["free", "pay"])), greatest(KEYED.with_street(["free", "pay"])))
        self.assertEqual(streets(crowd(POOR)), greatest(crowd(POOR)))

    def test_more_than_one_greatest_lot(self):
        # Either of the two is harmless alone; with both, what was put can be put once more.
        deeds = "put: a to 1; up: needs b 1, a to 2; bee: b to 1"
        system = made("a 3, b 2", deeds, "do put", street="bee up")
        self.assertEqual(streets(system), (("bee",), ("up",)))
        self.assertEqual(streets(crowd(system)), greatest(crowd(system)))

    def test_all_lots_are_tried(self):
        seen = set()
        for seed in range(300):
            system = random_system(seed, street=["d", "e", "u"], gears={"key": 1.0, "ahead": 0.1}, tags=["cut", "word"])
            found = streets(system)
            seen.add(len(found[0]) if found else None)
            self.assertEqual(found, greatest(system), str(system))
        self.assertTrue({None, 0, 1, 2, 3} <= seen)

    def test_crowds_of_random_systems(self):
        for seed in range(60):
            system = random_system(seed, editions=1, gears={"key": 1.0}, tags=["cut", "word"], style="back")
            try:
                many = crowd(system)
            except InvalidSystem:
                continue
            self.assertEqual(streets(many), greatest(many), str(system))

    def test_by_parameter_names(self):
        self.assertEqual(crowd(system=KEYED), crowd(KEYED))
        self.assertEqual(streets(system=KEYED), ((),))


if __name__ == "__main__":
    unittest.main()
