"""Any values, as the document tells them, for tests of wrong inputs."""

from asneverbegun.books import Book
from asneverbegun.companies import Company
from asneverbegun.desk import Desk
from asneverbegun.live import Live
from asneverbegun.plans import Plan
from asneverbegun.stage import play
from asneverbegun.systems import System
from asneverbegun.times import Times
from asneverbegun.worlds import Deed, World

WORLD = World([("a", 2)], [Deed("set", [], [("a", "to", 1)])])
PLAN = Plan(["do set"])
SYSTEM = System(WORLD, [PLAN], [(0,)])
PLAYED = play(SYSTEM, (0,), 0, [])

PLAIN = [0, 1, -1, 7, 10 ** 30, True, False, None, "", "a", "set", "no", "ok 1", "\n", "\u00e9", "a b", "-"]
OBJECTS = [WORLD.deeds[0], WORLD, PLAN, SYSTEM, PLAYED, Times(1, 1, 0, 1), Company([SYSTEM, SYSTEM]), Book([("m", SYSTEM)])]
OBJECTS += [Live(SYSTEM, (0,)), Desk()]


def any_values():
    """Values of all kinds, also nested ones and objects of the package."""
    values = list(PLAIN) + list(OBJECTS)
    values += [[], (), [[]], ((),), [()], ([],)]
    values += [[value] for value in PLAIN + OBJECTS] + [(value,) for value in PLAIN + OBJECTS]
    values += [("a", value) for value in PLAIN + OBJECTS] + [[("a", value)] for value in PLAIN + OBJECTS]
    values += [("a", "to", value) for value in (True, None, [], "1", PLAN)]
    values += [[("a", value, 0)] for value in (True, None, [], (), PLAN)]
    deep = 0
    for turn in range(8):
        deep = [deep] if turn % 2 else (deep,)
        values.append(deep)
    return values
