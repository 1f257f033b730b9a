import random
import unittest

from asneverbegun.companies import Company, front, woven
from asneverbegun.errors import InvalidCompany, InvalidEvent, InvalidSystem, Refused
from asneverbegun.harms import sound
from asneverbegun.plans import Plan
from asneverbegun.quarrels import quarrels
from asneverbegun.stage import Played, play
from asneverbegun.systems import System
from asneverbegun.worlds import World
from entwined import Entwined, random_company, random_weave
from samples import BARE, KEYED, NEWER, made, random_history
from values import any_values

DEEDS = "set: a to 1; clr: a to 0; up: a by 1; down: a by 2; want: needs a 1, a to 2; tell: a by 1, tells a; off: a back"


def one(*editions, street="-", starts=None, keys="cut word", deeds=DEEDS, cells="a 3"):
    return made(cells, deeds, *editions, street=street, starts=starts, keys=keys)


def pair(first, second, **more):
    return Company([one(first, **more), one(second, **more)])


class CompanyTest(unittest.TestCase):
    def test_members(self):
        rows = [one("do set"), one("do up undo down key/back", "end", keys="-")]
        company = Company(rows)
        self.assertEqual(company.members, tuple(rows))
        self.assertIsInstance(company.members, tuple)
        self.assertEqual(len(company), 2)
        rows.append(KEYED)
        self.assertEqual(len(company.members), 2)
        self.assertEqual(len(Company(members=(KEYED, BARE, NEWER))), 3)

    def assert_wrong(self, value, word):
        with self.assertRaises(InvalidCompany) as caught:
            Company(value)
        self.assertEqual(caught.exception.word, word)

    def test_members_that_are_unlike_in_one_thing(self):
        base = one("do set", street="up", starts=["0", "1"])
        world = base.world
        cells = World([("b", 3)], [])
        deeds = World(world.cells, world.deeds[:-1])
        order = World(world.cells, world.deeds[::-1])
        other = World([("a", 3), ("b", 2)], world.deeds)
        plan, end = base.editions, [Plan(["end"])]
        for member, word in (
            (System(cells, end, [(0,)]), "cells"), (System(other, plan, [(0, 0)], ["up"]), "cells"),
            (System(deeds, plan, base.starts, ["up"]), "deeds"), (System(order, plan, base.starts, ["up"]), "deeds"),
            (System(deeds, plan, [(2,)], []), "deeds"), (System(world, plan, [(0,)], ["up"]), "starts"),
            (System(world, plan, [(0,)], []), "starts"), (base.with_street([]), "street"),
            (base.with_street(["down", "up"]), "street"),
        ):
            self.assert_wrong([base, member], word)
            self.assert_wrong((member, base), word)
            self.assert_wrong([base, base, member], word)
            self.assert_wrong([base, member, base], word)

    def test_the_first_difference_of_all_members_is_told(self):
        base = one("do set", street="up")
        unlike = System(World([("b", 3)], []), [Plan(["end"])], [(0,)])
        self.assert_wrong([base, base.with_street([]), unlike], "cells")
        self.assert_wrong([base, base.with_street([]), System(base.world, base.editions, [(1,)], ["up"])], "starts")

    def test_what_can_be_unlike(self):
        base = one("do set", street="up", starts=["0", "1"])
        for member in (base, base.with_tags([]), base.with_editions([Plan(["do up key"]), Plan(["end"])])):
            self.assertEqual(Company([base, member]).members[1], member)
        swapped = System(base.world, base.editions, base.starts[::-1], base.street, base.tags)
        self.assertEqual(len(Company([base, swapped])), 2)

    def test_any_values(self):
        for value in any_values() + [[KEYED], [KEYED] * 4, [KEYED, None], (KEYED, BARE, "x"), [KEYED, KEYED.world],
                                     {0: KEYED, 1: KEYED}, str(KEYED), [[KEYED, KEYED]], Company([KEYED, BARE])]:
            self.assert_wrong(value, "members")

    def test_equal(self):
        company = Company([KEYED, BARE])
        self.assertTrue(company == Company((System.read(str(KEYED)), BARE)))
        for other in (Company([BARE, KEYED]), Company([KEYED, BARE, BARE]), (KEYED, BARE), KEYED, None):
            self.assertFalse(company == other)
            self.assertTrue(company != other)

    def test_bare(self):
        company = Company([one("do set undo clr ahead claim key else 1/back", "do up key"), one("do up/end", keys="-")])
        bare = company.bare()
        self.assertEqual(bare, Company([one("do set undo clr else 1/back", "do up"), one("do up/end", keys="-")]))
        self.assertEqual(bare.bare(), bare)
        self.assertEqual(company.members[0].editions[0].gear(0), ("ahead", "claim", "key"))

    def test_keyed(self):
        good = one("do set undo clr key/do up ahead key/back")
        self.assertIs(Company([good, good]).keyed(), True)
        self.assertIs(Company([good, one("end"), good]).keyed(), True)
        for other in (one("do set"), one("do set key/do up claim"), one("do set key", keys="cut"), one("do set key", keys="-"),
                      one("do set key", keys="word"), one("do set key", "do set key")):
            self.assertIs(Company([good, other]).keyed(), False)
            self.assertIs(Company([other, good, good]).keyed(), False)

    def test_not_iterable(self):
        with self.assertRaises(TypeError):
            iter(Company([KEYED, BARE]))


def weave(company, text, start=(0,)):
    """A woven history by a short text: `0 next, 1 write`."""
    rows = [(int(row.split()[0]), " ".join(row.split()[1:])) for row in text.split(", ")] if text else []
    return woven(company, start, rows)


class WovenTest(unittest.TestCase):
    def test_the_beginning(self):
        seen = woven(pair("do set", "do up/end", starts=["2"]), (2,), [])
        self.assertIsInstance(seen, tuple)
        for played in seen:
            self.assertIsInstance(played, Played)
            self.assertEqual((played.scene, played.shade, played.log, played.cuts), ((2,), (2,), (), 0))
            self.assertEqual((played.host, played.pending, played.met), ((0, 0, None), (), ()))

    def test_one_scene_and_all_else_for_each(self):
        seen = weave(pair("do set/do up", "do up/cut k/do up"), "0 next, 1 next, 0 write, 1 write, 1 next")
        self.assertEqual([row.scene for row in seen], [(2,), (2,)])
        self.assertEqual([row.log for row in seen], [("set ok",), ("cut k",)])
        self.assertEqual([row.cuts for row in seen], [0, 1])
        # What one did is done at the shade of the other one alone: set is nothing to its own shade.
        self.assertEqual([row.shade for row in seen], [(1,), (2,)])
        self.assertEqual([row.host for row in seen], [(0, 1, None), (0, 2, None)])

    def test_three_members(self):
        company = Company([one("do up/back"), one("do up"), one("do set")])
        seen = weave(company, "0 next, 1 next, 2 next")
        self.assertEqual([row.scene for row in seen], [(1,)] * 3)
        self.assertEqual([row.shade for row in seen], [(1,), (1,), (2,)])

    def test_the_street_is_the_same_for_any_number(self):
        company = pair("do set/back", "do up/back", street="up")
        for number in (0, 1):
            seen = woven(company, (0,), [(0, "next"), (number, "street up"), (1, "next")])
            self.assertEqual([(row.scene, row.shade) for row in seen], [((0,), (2,)), ((0,), (2,))])

    def test_answers_that_differ_are_noticed(self):
        # The other one wants what this one did: it gets it at the scene, and not at this one's shade.
        company = pair("do set undo clr/back", "do want/end")
        seen = weave(company, "0 next, 0 write, 1 next, 0 next, 0 next, 0 write, 0 next")
        self.assertEqual((seen[0].scene, seen[0].shade), ((0,), (0,)))
        self.assertEqual(seen[0].met, ((6, "noticed"),))
        self.assertEqual((seen[1].met, seen[1].host), ((), (0, 0, "ok")))
        # By the street it is the same; with nothing done it is not noticed.
        company = pair("do set undo clr/back", "end", street="want")
        seen = weave(company, "0 next, 0 write, 1 street want, 0 next, 0 next, 0 write, 0 next")
        self.assertEqual(seen[0].met, ((6, "noticed"),))
        company = pair("do set undo clr else 1/back", "do want/end", starts=["1"])
        seen = weave(company, "0 next, 1 next, 0 write, 0 next, 0 next, 0 write, 0 next", (1,))
        self.assertEqual((seen[0].met, seen[0].scene, seen[0].shade), (((6, "left"),), (0,), (2,)))

    def test_told_values_that_differ_are_noticed(self):
        company = pair("do up undo down/back", "do tell/end")
        seen = weave(company, "0 next, 1 next, 0 write, 0 next, 0 next, 0 write, 0 next")
        self.assertEqual((seen[0].met, seen[0].scene, seen[0].shade), (((6, "noticed"),), (1,), (1,)))

    def test_an_opposite_is_done_with_the_same_old_values(self):
        company = pair("do tell undo off/back", "do set")
        seen = weave(company, "0 next, 0 write, 1 next, 0 next, 0 next", (0,))
        self.assertEqual((seen[0].scene, seen[0].shade), ((0,), (1,)))
        self.assertEqual((seen[1].scene, seen[1].shade), ((0,), (0,)))
        company = pair("do up/do tell undo off/back", "do down undo up/back", starts=["1"])
        seen = weave(company, "0 next, 0 write, 0 next, 0 write, 0 next, 1 next, 0 next", (1,))
        self.assertEqual((seen[1].scene, seen[1].shade), ((2,), (2,)))

    def test_deeds_answered_from_memory_or_refused_are_nothing_for_others(self):
        company = pair("do up key", "do up/back")
        seen = weave(company, "0 next, 0 over 0, 0 next")
        self.assertEqual((seen[0].scene, seen[0].host[2], seen[1].shade), ((1,), "ok", (1,)))
        seen = weave(company, "0 over 0, 0 late 0, 0 next")
        self.assertEqual((seen[0].scene, seen[1].shade), ((1,), (1,)))
        seen = weave(pair("do up claim", "do up/back"), "0 over 0, 0 late 0")
        self.assertEqual((seen[0].scene, seen[1].shade, seen[0].pending), ((0,), (0,), (("up", 0, True),)))
        seen = weave(pair("do up", "do up/back"), "0 over 0, 0 late 0, 0 next")
        self.assertEqual((seen[0].scene, seen[1].shade, seen[0].met), ((2,), (2,), ((2, "again"),)))

    def test_a_late_deed_is_seen_by_others(self):
        seen = weave(pair("do up", "do want/back"), "0 over 0, 1 next, 0 late 0, 1 write, 1 next, 1 next")
        self.assertEqual((seen[1].scene, seen[1].shade, seen[1].met), ((1,), (1,), ()))

    def test_over_and_late_speak_of_own_hosts(self):
        company = Company([one("do set", "do set"), one("do up/do up")])
        seen = weave(company, "0 over 0, 1 over 0, 0 over 1, 1 next, 0 late 1")
        self.assertEqual(seen[0].pending, (("set", 0, False), ("set", 0, True)))
        self.assertEqual(seen[1].pending, (("up", 0, False),))
        self.assertEqual((seen[0].host, seen[1].host), ((1, 0, None), (0, 0, "ok")))
        for text, at in (("0 over 0, 1 late 0", 1), ("1 over 1", 0), ("0 over 1, 0 over 0", 1), ("1 over 0, 0 late 0", 1)):
            with self.assertRaises(Refused) as caught:
                weave(company, text)
            self.assertEqual(caught.exception.at, at)

    def test_memories_are_their_own(self):
        company = pair("do up key", "do up key", keys="-")
        seen = weave(company, "0 next, 1 next")
        self.assertEqual([row.scene for row in seen], [(2,), (2,)])

    def test_the_indexes_of_met_are_those_of_the_rows(self):
        company = pair("do up/back", "do up/back")
        seen = weave(company, "0 next, 1 next, 0 write, 0 next, 1 write, 0 next, 1 next, 1 next")
        self.assertEqual([row.met for row in seen], [((5, "left"),), ((7, "left"),)])

    def test_wrong_rows(self):
        company = pair("do up/end", "do up/end")
        for value in any_values() + ["0 next", {0: "next"}]:
            if not isinstance(value, (list, tuple)):
                with self.assertRaises(InvalidEvent) as caught:
                    woven(company, (0,), value)
                self.assertEqual(caught.exception.at, 0)
            wrong = [(0, "next"), value, (0, "nothing")]
            with self.assertRaises(InvalidEvent) as caught:
                woven(company, (0,), wrong)
            self.assertEqual(caught.exception.at, 1, value)
        for row in ([0, "next"], (2, "next"), (-1, "next"), (True, "next"), (False, "next"), ("0", "next"), (0, "Next"), (0,),
                    (0, "next", 0), (None, "next"), (0, None), (0, ["next"]), (0, "over 01"), ("next", 0), (0, "street do")):
            with self.assertRaises(InvalidEvent) as caught:
                woven(company, (0,), [(1, "write"), (0, "next"), row])
            self.assertEqual(caught.exception.at, 2)
        three = Company([one("end")] * 3)
        self.assertEqual(woven(three, (0,), ((2, "next"),))[2].log, ("end",))
        with self.assertRaises(InvalidEvent):
            woven(three, (0,), ((3, "next"),))

    def test_refused(self):
        company = pair("do up/end", "do up/end", street="up")
        for text, at in (("0 write", 0), ("0 next, 1 write", 1), ("0 next, 0 next", 1), ("0 next, 0 street set", 1),
                         ("0 next, 0 write, 0 next, 0 next", 3), ("1 late 0", 0), ("0 over 7", 0)):
            with self.assertRaises(Refused) as caught:
                weave(company, text)
            self.assertEqual(caught.exception.at, at)
        with self.assertRaises(InvalidEvent):
            weave(company, "0 write, 0 none none")

    def test_alone_it_is_play(self):
        # If the others do nothing, each work is played as by itself.
        for seed in range(60):
            company = random_company(seed, 3)
            rng = random.Random(seed)
            member = seed % 3
            start, _, events = random_history(rng, company.members[member], 10)
            seen = woven(company, start, [(member, event) for event in events])
            alone = play(company.members[member], start, 0, events)
            for name in ("scene", "shade", "log", "cuts", "host", "pending", "met"):
                self.assertEqual(getattr(seen[member], name), getattr(alone, name))

    def test_against_the_second_stage(self):
        met = set()
        for seed in range(300):
            company = random_company(seed, 2 + seed % 2, tags=random.Random(seed).choice([[], ["cut"], ["cut", "word"]]))
            start, rows = random_weave(random.Random(seed), company, 16)
            entwined = Entwined(company)
            states, harms = entwined.begin(start), [[] for _ in company.members]
            for at, row in enumerate(rows):
                states, found = entwined.do(states, *row)
                harms[row[0]] += [(at, harm) for harm in sorted(found)]
                met |= found
            seen = woven(company, start, rows)
            for played, state, wanted in zip(seen, states, harms):
                told = (played.scene, played.shade, played.log, played.cuts, played.host[2], played.met)
                self.assertEqual(told, (state.scene, state.shade, state.log, state.cuts, state.held, tuple(wanted)))
                self.assertEqual(played.pending, tuple((row[0], row[3][1], row[4]) for row in state.pending))
        self.assertTrue({"again", "unlike", "stale", "left", "noticed", "stuck"} <= met, met)

    def test_by_parameter_names(self):
        company = pair("do up", "end")
        self.assertEqual(woven(start=(1,), rows=[(0, "next")], company=company)[1].scene, (2,))


class FrontTest(unittest.TestCase):
    def test_the_street_of_a_front(self):
        company = Company([one("do set undo clr/back", street="down"), one("do up", "do want undo up/end", street="down"),
                           one("do set", street="down")])
        self.assertEqual(front(company, 0).street, ("down", "set", "up", "want"))
        self.assertEqual(front(company, 1).street, ("clr", "down", "set"))
        self.assertEqual(front(company, 2).street, ("clr", "down", "set", "up", "want"))
        for member in range(3):
            self.assertEqual(front(company, member).with_street(["down"]), company.members[member])

    def test_opposites_that_set_back(self):
        company = Company([one("do set/back"), one("do set", "do tell undo off/back"), one("end")])
        for member in (0, 2):
            with self.assertRaises(InvalidSystem) as caught:
                front(company, member)
            self.assertEqual(caught.exception.word, "street")
        self.assertEqual(front(company=company, member=1).street, ("set",))

    def test_sound_fronts_are_enough(self):
        # [62]: if all fronts are sound, no work of the company ever meets a harm.
        seen = 0
        for seed in range(300):
            company = random_company(seed, 2 + seed % 2, {"key": 0.9, "ahead": 0.2})
            try:
                fronts = [front(company, member) for member in range(len(company))]
            except InvalidSystem:
                continue
            if all(sound(system) for system in fronts):
                seen += 1
                self.assertEqual(quarrels(company), ())
                for turn in range(6):
                    start, rows = random_weave(random.Random(seed * 10 + turn), company, 18)
                    self.assertEqual([row.met for row in woven(company, start, rows)], [()] * len(company))
        self.assertGreater(seen, 20)


if __name__ == "__main__":
    unittest.main()
