"""What the document promises over the whole program: sections 2 and its examples once more."""

import copy
import doctest
import os
import unittest

from asneverbegun import calm, companies, editions, gears, harms, memories, mending, opposites, peels, quarrels, times
from asneverbegun import books, claims, errors, ideals, knowledge, plainthings, plans, shown, stage, systems, worlds
from asneverbegun.desk import Desk
from asneverbegun.live import Live
from samples import BARE, KEYED, LIGHT, NEWER, made
from values import OBJECTS, PLAN, SYSTEM, WORLD, any_values

HERE = os.path.dirname(os.path.abspath(__file__))
BOTH = companies.Company([KEYED, KEYED])
BOOK = books.Book([("m", BARE)], [("reads", "m", ())])
TIMES = times.Times(1, 10, 0, 1)
START = (0, 0)
STORY = ("next", "over 0", "next", "write")


def more_values():
    """Any values, and some more that are hard to handle."""
    values = any_values() + ["\x00", "\ud800", "a" * 5000, "(" * 5000, "1" * 5000, 10 ** 5000, -10 ** 5000, " ", "next ", "ok ?", "undo"]
    values += [[value] for value in ("next", "do set", "ok", ["next"], ("a", 1), ("a", [1]), (0, "next"), ([], ()))]
    values += [(("a", ["b"]), 1), ((0,), (0,), [], None), tuple(range(9)), [("a", "to", [1])], ("story", "m", "again", [0], 0, ())]
    values += [("next", ["next"]), ((((((((1,),),),),),),),), ["cut", "cut"], ("street", "a"), ("m", [BARE])]
    return values


# What is described for any value: what is called with it, and the errors that can come.
CALLS = [
    (lambda v: worlds.Deed(v), errors.InvalidDeed), (lambda v: worlds.Deed("a", v), errors.InvalidDeed),
    (lambda v: worlds.Deed("a", (), v), errors.InvalidDeed), (lambda v: worlds.Deed("a", (), (), v), errors.InvalidDeed),
    (worlds.Deed.read, errors.InvalidText), (lambda v: worlds.World(v, []), errors.InvalidWorld),
    (lambda v: worlds.World([("a", 2)], v), errors.InvalidWorld), (WORLD.deed, errors.NoName),
    (lambda v: worlds.done(WORLD, v, "set"), errors.InvalidScene), (lambda v: worlds.done(WORLD, (0,), v), errors.NoName),
    (lambda v: worlds.done(WORLD, v, v), (errors.InvalidScene, errors.NoName)),
    (plans.Plan, errors.InvalidPlan), (plans.Plan.read, errors.InvalidText), (PLAN.deed, errors.NoLine),
    (PLAN.opposite, errors.NoLine), (PLAN.gear, errors.NoLine), (lambda v: PLAN.with_gear(v, []), errors.NoLine),
    (lambda v: plans.stand(PLAN, v), errors.InvalidLog), (lambda v: plans.stand(PLAN, ["set ok", v]), errors.InvalidLog),
    (lambda v: systems.System(v, [PLAN], [(0,)]), errors.InvalidSystem), (lambda v: systems.System(WORLD, v, [(0,)]), errors.InvalidSystem),
    (lambda v: systems.System(WORLD, [PLAN], v), errors.InvalidSystem), (SYSTEM.with_editions, errors.InvalidSystem),
    (SYSTEM.with_street, errors.InvalidSystem), (SYSTEM.with_tags, errors.InvalidSystem), (systems.System.read, errors.InvalidText),
    (lambda v: stage.play(SYSTEM, (0,), 0, v), (errors.InvalidEvent, errors.Refused)),
    (lambda v: stage.play(SYSTEM, (0,), 0, ["next", v]), (errors.InvalidEvent, errors.Refused)),
    (lambda v: harms.happens(SYSTEM, v), errors.InvalidHarm), (lambda v: harms.story(SYSTEM, v), errors.InvalidHarm),
    (lambda v: harms.meets(SYSTEM, v), errors.InvalidHarm), (lambda v: calm.calm_paper(SYSTEM, v), errors.InvalidHarm),
    (lambda v: calm.calm_holds(KEYED, v, ()), errors.InvalidHarm), (lambda v: calm.calm_holds(KEYED, "again", v), ()),
    (lambda v: mending.mends(LIGHT, [v]), errors.InvalidHarm), (lambda v: opposites.pairs(SYSTEM, 0, v), errors.NoLine),
    (lambda v: opposites.clean(SYSTEM, 0, v), errors.NoLine), (lambda v: opposites.faults(SYSTEM, 0, v), errors.NoLine),
    (lambda v: opposites.bars(SYSTEM, 0, v), errors.NoLine), (lambda v: opposites.clean_paper(SYSTEM, 0, v), errors.NoLine),
    (lambda v: opposites.clean_holds(SYSTEM, 0, v, ()), errors.NoLine), (lambda v: opposites.clean_holds(SYSTEM, 0, 0, v), ()),
    (lambda v: peels.left_holds(KEYED, 0, v), ()), (lambda v: editions.reading_holds(NEWER, v), ()),
    (lambda v: ideals.ideal(KEYED, START, 0, v), (errors.InvalidEvent, errors.Refused)),
    (lambda v: ideals.seen_as_one(KEYED, START, 0, (), v), (errors.InvalidEvent, errors.Refused)),
    (lambda v: shown.shown(KEYED, START, 0, v), (errors.InvalidEvent, errors.Refused)),
    (lambda v: shown.accused(KEYED, START, 0, v), (errors.InvalidEvent, errors.Refused)),
    (lambda v: memories.recall(KEYED, 1, START, 0, v), (errors.InvalidEvent, errors.Refused)),
    (lambda v: memories.late_ages(KEYED, v, 3), errors.NoLine), (lambda v: memories.latest(KEYED, v), errors.NoLine),
    (lambda v: memories.age_paper(KEYED, v, 1), errors.NoLine), (lambda v: memories.age_holds(KEYED, v, 1, ()), errors.NoLine),
    (lambda v: memories.age_holds(KEYED, 0, 1, v), ()), (lambda v: times.Times(v, 1, 0, 1), errors.InvalidTimes),
    (lambda v: times.Times(1, v, 0, 1), errors.InvalidTimes), (lambda v: times.Times(1, 1, v, 1), errors.InvalidTimes),
    (lambda v: times.Times(1, 1, 0, v), errors.InvalidTimes), (lambda v: times.Times(1, 1, 0, 1, v), errors.InvalidTimes),
    (lambda v: times.stray_holds(TIMES, v), ()), (companies.Company, errors.InvalidCompany),
    (lambda v: companies.woven(BOTH, START, v), (errors.InvalidEvent, errors.Refused)),
    (lambda v: companies.woven(BOTH, START, [(1, "next"), v]), (errors.InvalidEvent, errors.Refused)),
    (lambda v: quarrels.quarrel(BOTH, 0, v), errors.InvalidHarm), (lambda v: quarrels.blame(BOTH, 0, v), errors.InvalidHarm),
    (lambda v: quarrels.quiet_holds(BOTH, 0, v), ()), (plainthings.read_plain, errors.InvalidText), (claims.is_claim, ()),
    (claims.read_claim, errors.InvalidText), (lambda v: books.Book(v), errors.InvalidBook),
    (lambda v: books.Book(BOOK.systems, v), errors.InvalidBook), (books.Book.read, errors.InvalidText), (BOOK.of_name, errors.NoName),
    (lambda v: BOOK.with_system(v, BARE), errors.InvalidBook), (lambda v: BOOK.with_system("x", v), errors.InvalidBook),
    (BOOK.with_claim, errors.InvalidBook), (BOOK.without, errors.NoLine), (lambda v: books.holds(BOOK, v), errors.NoLine),
    (lambda v: knowledge.known(BOOK, v), errors.NoName), (lambda v: knowledge.gaps(BOOK, v), errors.NoName),
    (lambda v: knowledge.full_book(v, LIGHT), errors.InvalidBook), (lambda v: Live(SYSTEM, v), errors.InvalidScene),
    (lambda v: Live(SYSTEM, (0,)).do(v), (errors.InvalidEvent, errors.Refused)),
    (lambda v: Live(SYSTEM, (0,)).several(v), (errors.InvalidEvent, errors.Refused)), (lambda v: Desk().say(v), errors.InvalidCommand),
]
PAPERS = [
    (KEYED, lambda: calm.calm_paper(KEYED, "again"), lambda v: calm.calm_holds(KEYED, "again", v)),
    (KEYED, lambda: opposites.clean_paper(KEYED, 0, 0), lambda v: opposites.clean_holds(KEYED, 0, 0, v)),
    (KEYED, lambda: peels.left_paper(KEYED, 0), lambda v: peels.left_holds(KEYED, 0, v)),
    (KEYED, lambda: memories.age_paper(KEYED, 1, 2), lambda v: memories.age_holds(KEYED, 1, 2, v)),
    (BOTH, lambda: quarrels.quiet_paper(BOTH, 0), lambda v: quarrels.quiet_holds(BOTH, 0, v)),
]
# Calls with what they are described for, by which results are looked at.
RESULTS = [
    lambda: worlds.done(WORLD, (0,), "set"), lambda: WORLD.scenes(), lambda: plans.stand(PLAN, ["set ok", "end"]),
    lambda: harms.harms(BARE), lambda: harms.story(BARE, "again"), lambda: harms.meets(BARE, "unlike"),
    lambda: calm.calm_paper(KEYED, "again"), lambda: gears.least_gears(BARE), lambda: gears.joints(BARE),
    lambda: gears.least_tables(BARE), lambda: gears.needless(KEYED), lambda: mending.changes(BARE),
    lambda: mending.mends(BARE, ["again"]), lambda: opposites.pairs(BARE, 0, 0), lambda: opposites.faults(BARE, 0, 1),
    lambda: peels.left_paper(BARE, 0), lambda: editions.parting(NEWER), lambda: editions.mixed(NEWER),
    lambda: ideals.ideal(KEYED, START, 0, ["over 0", "next"]), lambda: shown.shown(BARE, START, 0, STORY),
    lambda: memories.late_ages(KEYED, 1, 5), lambda: memories.age_paper(KEYED, 1, 2), lambda: times.stray(TIMES),
    lambda: times.gears_under(KEYED, TIMES), lambda: quarrels.quarrels(BOTH), lambda: quarrels.quiet_paper(BOTH, 0),
    lambda: quarrels.calm_lots(BOTH), lambda: plainthings.read_plain("((1, 2), ())"), lambda: claims.read_claim("reads m ((1))"),
    lambda: books.failing(BOOK), lambda: knowledge.known(BOOK, "m"), lambda: knowledge.gaps(BOOK, "m"), lambda: knowledge.spare(BOOK),
    lambda: knowledge.full_book("m", LIGHT).claims, lambda: Live(BARE, START).can(), lambda: Live(BARE, START).several(STORY),
    lambda: companies.front(BOTH, 0).street, lambda: stage.play(BARE, START, 0, STORY).met,
]


def is_told_in_tuples(value):
    """Whether a result has no lists, dicts or sets in it."""
    if isinstance(value, tuple):
        return all(is_told_in_tuples(thing) for thing in value)
    return not isinstance(value, (list, dict, set, frozenset))


class WholeTest(unittest.TestCase):
    def test_all_examples(self):
        found = doctest.testfile(os.path.join(HERE, "examples.txt"), module_relative=False, encoding="utf-8")
        self.assertEqual((found.failed, found.attempted), (0, 80))

    def test_any_values_raise_only_what_is_described(self):
        values = more_values()
        for at, (call, allowed) in enumerate(CALLS):
            for value in values:
                try:
                    found = call(value)
                except allowed:
                    continue
                if allowed == ():
                    self.assertIs(found, False, (at, value))

    def test_any_values_in_papers(self):
        for _, paper, holds in PAPERS:
            whole = paper()
            self.assertIs(holds(whole), True)
            for value in more_values():
                self.assertIs(holds(whole + (value,)), False)
                for at in range(len(whole[0])):
                    row = whole[0][:at] + (value,) + whole[0][at + 1:]
                    self.assertIn(holds(whole + (row,)), (True, False))

    def test_results_are_told_in_tuples_and_are_the_same_again(self):
        first = [call() for call in RESULTS]
        for found in first:
            self.assertTrue(is_told_in_tuples(found), found)
        again = [call() for call in RESULTS[::-1]][::-1]
        self.assertEqual(repr(first), repr(again))

    def test_objects_are_not_iterable(self):
        for thing in OBJECTS + [BOTH, BOOK, TIMES, knowledge.full_book("m", BARE)]:
            for call in (iter, list, tuple, lambda row: [one for one in row]):
                with self.assertRaises(TypeError):
                    call(thing)

    def test_objects_of_other_classes_are_not_equal(self):
        for at, thing in enumerate(OBJECTS):
            for other in OBJECTS[:at] + OBJECTS[at + 1:] + any_values()[:17] + [str(thing), (thing,)]:
                self.assertFalse(thing == other)
                self.assertTrue(thing != other)

    def test_arguments_are_not_changed(self):
        events = ["next", "over 0", "next", "write"]
        rows = [(0, "next"), (1, "next"), (0, "write")]
        lots = [("pay", 1)], ["again"], [(("key",), ("key",))], ["book ok"], [START, (1, 0)], [KEYED, KEYED], [("m", BARE)], ["rest"]
        ahead = copy.deepcopy((events, rows))
        told = repr(lots[1:5])
        stage.play(BARE, START, 0, events)
        ideals.ideal(KEYED, START, 0, events)
        ideals.seen_as_one(BARE, START, 0, events, events)
        shown.accused(BARE, START, 0, events)
        shown.explained(BARE, START, 0, lots[4], lots[3])
        memories.recall(KEYED, 2, START, 0, events)
        companies.woven(BOTH, START, rows)
        Live(BARE, START).several(events)
        mending.mends(LIGHT, lots[1])
        gears.stops(BARE, lots[2])
        plans.stand(BARE.editions[0], lots[3])
        companies.Company(lots[5])
        books.Book(lots[6], ())
        BARE.with_street(lots[7])
        self.assertEqual((events, rows), ahead)
        self.assertEqual(repr(lots[1:5]), told)
        self.assertEqual([len(lot) for lot in lots], [1, 1, 1, 1, 2, 2, 1, 1])

    def test_later_changes_of_arguments(self):
        members, rows, things = [KEYED, KEYED], [("m", BARE)], [("reads", "m", ())]
        company, book = companies.Company(members), books.Book(rows, things)
        members.append(BARE)
        rows[0] = ("k", KEYED)
        things.clear()
        self.assertEqual((company, book), (BOTH, BOOK))

    def test_lists_and_tuples_are_the_same(self):
        for call, value in (
            (lambda v: stage.play(BARE, START, 0, v).met, STORY), (lambda v: shown.shown(BARE, START, 0, v), STORY),
            (lambda v: Live(BARE, START).several(v), STORY), (lambda v: companies.woven(BOTH, START, v)[0].log, ((0, "next"), (0, "write"))),
            (lambda v: companies.Company(v), (KEYED, BARE)), (lambda v: books.Book(v), (("m", BARE), ("k", KEYED))),
            (lambda v: books.Book(BOOK.systems, v), BOOK.claims), (lambda v: mending.mends(LIGHT, v), ("again", "left")),
            (lambda v: str(BARE.with_tags(v)), ("word",)), (lambda v: str(plans.Plan(v)), ("do a", "end")),
        ):
            self.assertEqual(call(list(value)), call(tuple(value)))

    def test_what_is_without_a_result(self):
        live, desk = Live(BARE, START), Desk()
        self.assertIsNone(live.within(lambda there: None))
        self.assertIsInstance(desk.say("write"), str)

    def test_somewhat_beyond_the_limits(self):
        # Callers stay within the limits or go somewhat beyond them; then no error comes.
        deed = worlds.Deed("a", [("m", 10 ** 4500)], [("n", "by", 10 ** 4400)])
        self.assertEqual(len(str(deed)), len("deed a: needs m , n by ") + 4501 + 4401)
        self.assertEqual(deed, worlds.Deed("a", [("m", 10 ** 4500)], [("n", "by", 10 ** 4400)]))
        wide = made("a 2", "one: a to 1; two: a to 0", "/".join("do one undo two key" for _ in range(8)))
        self.assertEqual(harms.harms(wide), ())
        live = Live(BARE, START)
        for _ in range(45):
            live.do("over 0")
            live.several([])
        self.assertEqual((len(live), live.can()[0]), (90, "late 0"))


if __name__ == "__main__":
    unittest.main()
