import itertools
import random
import unittest

from asneverbegun.companies import Company, front, woven
from asneverbegun.errors import InvalidHarm, InvalidSystem
from asneverbegun.events import HARMS
from asneverbegun.harms import harms
from asneverbegun.opposites import clean
from asneverbegun.plans import do_lines
from asneverbegun.quarrels import alarms, blame, calm_lots, quarrel, quarrels, quiet_holds, quiet_paper, rough
from asneverbegun.systems import System
from entwined import THREE, Entwined, plain_walk, random_company, random_weave, standing
from samples import KEYED, made
from values import any_values

POOR = System.read(
    str(KEYED).replace("pay: m", "pay: needs m 0, m").replace("rest key", "rest key else 3")
    .replace("start 0 0", "start 0 0\nstart 0 1")
)
PAYER = System.read(str(POOR).split("\nedition")[0] + "\nedition\ndo pay key\nend")
BOTH, CALM, TRIPLE = Company([POOR, POOR]), Company([POOR, PAYER]), Company([POOR, POOR, PAYER])
DEEDS = (
    "set: a to 1; clr: a to 0; up: a by 1; down: a by 2; want: needs a 1, a to 2; tell: a by 1, tells a; off: a back; "
    "need: needs a 1, a to 0; bee: b to 1; buzz: needs b 1, a by 1; none: nothing"
)


def company(*plans, street="-", starts=None, deeds=DEEDS, cells="a 3, b 2"):
    return Company([made(cells, deeds, plan, street=street, starts=starts) for plan in plans])


def lots(members):
    return [lot for size in range(len(members) + 1) for lot in itertools.combinations(members, size)]


def maximal(found):
    return tuple(sorted(lot for lot in found if not any(set(lot) < set(more) for more in found)))


def minimal(found):
    return tuple(sorted(lot for lot in found if not any(set(less) < set(lot) for less in found)))


class QuarrelTest(unittest.TestCase):
    def assert_quarrel(self, there, member, harm):
        start, rows = quarrel(there, member, harm)
        self.assertIn(start, there.members[0].starts)
        self.assertTrue({event.split()[0] for _, event in rows} <= {"next", "write", "street"})
        met = woven(there.bare(), start, rows)[member].met
        self.assertIn((len(rows) - 1, harm), met)
        self.assertTrue(all(at == len(rows) - 1 for at, _ in met), met)

    def test_the_examples(self):
        self.assertEqual(
            (quarrels(BOTH), quarrels(CALM), blame(TRIPLE, 0, "left"), calm_lots(TRIPLE)),
            (((0, "left"), (0, "noticed"), (1, "left"), (1, "noticed")), (), ((1,),), ((0, 2), (1, 2))),
        )

    def test_each_harm(self):
        for there, wanted in (
            (company("do set undo clr/back", "do want"), ((0, "noticed"),)),
            (company("do up undo down/back", "do set"), ((0, "left"),)),
            (company("do set undo need/back", "do down"), ((0, "left"), (0, "stuck"))),
            (company("do down undo need/back", "do none"), ((0, "stuck"),)),
            (company("do set undo clr/back", "do set undo clr/back"), ((0, "left"), (1, "left"))),
            (company("do up undo down/back", "do up undo down/back"), ()),
            (company("do up undo down/end", "do set"), ()),
            (company("do up undo down/sure/back", "do set"), ()),
            (company("do none/cut k/do up undo down/back", "do set"), ((0, "left"),)),
        ):
            self.assertEqual(quarrels(there), wanted, str(there.members[0]))
            for member, harm in wanted:
                self.assert_quarrel(there, member, harm)
            for member in (0, 1):
                for harm in HARMS:
                    if (member, harm) not in wanted:
                        self.assertIsNone(quarrel(there, member, harm))

    def test_gears_make_no_difference(self):
        bare = company("do up undo down/back", "do set/do up undo clr/back")
        geared = company("do up undo down ahead key/back", "do set claim/do up undo clr ahead claim key/back")
        self.assertEqual(quarrels(bare), quarrels(geared))
        self.assertEqual(bare, geared.bare())

    def test_behind_its_own_first_harm_nothing_counts(self):
        # It is stuck whenever it takes back; what it leaves then, and what was noticed, does not count.
        there = company("do down undo need/back", "do none")
        self.assertEqual(quarrels(there), ((0, "stuck"),))
        rows = [(0, event) for event in ("next", "write", "next", "next", "write", "next")]
        self.assertEqual(woven(there, (0, 0), rows)[0].met, ((4, "stuck"), (5, "left")))
        self.assertEqual(quarrels(company("do none undo need/back", "do up")), ((0, "left"), (0, "stuck")))

    def test_harms_of_others_do_not_matter(self):
        # The second one leaves something behind, and is gone, ahead of what it does to the first one: nothing more.
        there = company("do up undo down/back", "do set/back")
        self.assertEqual(quarrels(there), ((0, "left"), (1, "left")))
        # The third one goes on though the second one met a harm first: want comes only behind its set.
        three = company("do set undo clr/back", "do up/back", "do want")
        self.assertIn((1, "left"), quarrels(three))
        self.assertIn((0, "noticed"), quarrels(three))

    def test_a_member_that_writes_nothing_but_cuts(self):
        there = company("do up undo down/back", "cut k/go 0", "go 1/do set")
        self.assertEqual(quarrels(there), ((0, "left"),))
        self.assertEqual(quarrels(company("cut k/go 0", "cut k/go 0")), ())
        self.assert_quarrel(there, 0, "left")

    def test_entries_ahead_of_deeds_are_in_the_history(self):
        there = company("do up undo down/back", "sure/cut k/go 3/sure/do set/go 1", starts=["1 0"])
        self.assertEqual(quarrels(there), ((0, "left"),))
        self.assert_quarrel(there, 0, "left")
        _, rows = quarrel(there, 0, "left")
        self.assertIn((1, "next"), rows)

    def test_any_harms(self):
        for value in any_values() + ["Left", "left ", ["left"], ("left",)]:
            for call in (quarrel, blame):
                with self.assertRaises(InvalidHarm):
                    call(BOTH, 0, value)
        for harm in ("again", "unlike", "loose", "astray", "stale"):
            self.assertIsNone(quarrel(BOTH, 0, harm))
            self.assertEqual(blame(BOTH, 0, harm), ())

    def test_against_a_walk(self):
        kinds = {True: 0, False: 0}
        for seed in range(140):
            there = random_company(seed, 2 if seed % 3 else 3)
            wanted, is_whole = [], True
            for member in range(len(there)):
                found, _, is_all = plain_walk(there, member)
                is_whole = is_whole and is_all
                wanted += [(member, harm) for harm in sorted(found)]
            if is_whole:
                self.assertEqual(quarrels(there), tuple(wanted), [str(row) for row in there.members])
                kinds[bool(wanted)] += 1
            for member, harm in quarrels(there):
                self.assert_quarrel(there, member, harm)
        self.assertGreater(min(kinds.values()), 25)

    def test_keyed_companies_with_falls(self):
        # [64]: what is decided for plain woven histories holds for all, with falls and late deeds among them.
        met, calm = set(), 0
        for seed in range(250):
            there = random_company(seed, 2 + seed % 2, {"key": 1.0, "claim": 0.2})
            self.assertTrue(there.keyed())
            known = quarrels(there)
            for turn in range(6):
                start, rows = random_weave(random.Random(seed * 9 + turn), there, 22)
                for member, played in enumerate(woven(there, start, rows)):
                    if played.met:
                        first = played.met[0][0]
                        for at, harm in played.met:
                            if at == first:
                                self.assertIn((member, harm), known)
                                met.add(harm)
                    calm += not played.met
        self.assertEqual(met, THREE)
        self.assertGreater(calm, 100)

    def test_keyed_companies_by_all_short_histories(self):
        for seed in range(40):
            there = random_company(seed, 2, {"key": 1.0}, sizes=(1, 2), cells=[("a", 2)])
            entwined, known = Entwined(there), quarrels(there)
            for member in (0, 1):
                layer = {entwined.begin(start) for start in there.members[0].starts}
                seen = set(layer)
                for _ in range(6):
                    following = set()
                    for states in layer:
                        for row in entwined.can(states):
                            behind, met = entwined.do(states, *row)
                            if row[0] == member and met:
                                for harm in met:
                                    self.assertIn((member, harm), known)
                            elif behind not in seen and len(seen) < 6000:
                                seen.add(behind)
                                following.add(behind)
                    layer = following

    def test_quarrels_happen_in_fronts(self):
        # [64]: each quarrel is one of the harms of the front.
        for seed in range(150):
            there = random_company(seed, 2 + seed % 2, {"key": 0.5})
            for member, harm in quarrels(there):
                try:
                    self.assertIn(harm, harms(front(there, member)))
                except InvalidSystem:
                    pass

    def test_by_parameter_names(self):
        self.assertEqual(quarrels(company=CALM), ())
        self.assertIsNone(quarrel(harm="left", member=0, company=CALM))


class BlameTest(unittest.TestCase):
    def test_by_the_street_alone(self):
        there = company("do up undo down/back", "do none", street="set")
        self.assertEqual(blame(there, 0, "left"), ((),))
        self.assertEqual(calm_lots(there), ((1,),))

    def test_by_one_other_member(self):
        self.assertEqual(blame(company("do up undo down/back", "do none", "do set"), 0, "left"), ((2,),))
        self.assertEqual(blame(company("do up undo down/back", "do set", "do set"), 0, "left"), ((1,), (2,)))
        self.assertEqual(blame(company("do set", "do up undo down/back"), 1, "left"), ((0,),))

    def test_by_two_of_them_together(self):
        # One lets the other one in.
        there = company("do up undo down/back", "do bee", "do buzz/do set", deeds=DEEDS.replace("set: ", "set: needs b 1, "))
        self.assertEqual(blame(there, 0, "left"), ((1, 2),))
        self.assertEqual(blame(there, 0, "noticed"), ())
        self.assertEqual(calm_lots(there), ((0, 1), (0, 2), (1, 2)))

    def test_by_nobody(self):
        self.assertEqual(blame(CALM, 0, "left"), ())
        self.assertEqual(blame(company("do up undo down/back", "do set"), 1, "left"), ())
        # What it does alone is blamed on nobody else.
        self.assertEqual(blame(company("do up/back", "do set"), 0, "left"), ((),))

    def test_against_walks(self):
        sizes = set()
        for seed in range(40):
            there = random_company(seed, 3, sizes=(1, 2))
            for member in range(3):
                others = [at for at in range(3) if at != member]
                rows = {lot: plain_walk(there, member, lot + (member,)) for lot in lots(others)}
                if not all(row[2] for row in rows.values()):
                    continue
                for harm in sorted(THREE):
                    wanted = minimal([lot for lot, row in rows.items() if harm in row[0]])
                    self.assertEqual(blame(there, member, harm), wanted)
                    sizes |= {len(lot) for lot in wanted}
        self.assertTrue({0, 1} <= sizes)

    def test_calm_lots(self):
        self.assertEqual(calm_lots(CALM), ((0, 1),))
        self.assertEqual(calm_lots(BOTH), ((0,), (1,)))
        self.assertEqual(calm_lots(company("do up/back", "do up/back")), ((),))
        self.assertEqual(calm_lots(company("do up/back", "do up/end")), ((1,),))

    def test_calm_lots_against_walks(self):
        for seed in range(35):
            there = random_company(seed, 3, sizes=(1, 2))
            found, is_whole = [], True
            for lot in lots(range(3)):
                rows = [plain_walk(there, member, lot) for member in lot]
                is_whole = is_whole and all(row[2] for row in rows)
                if not any(row[0] for row in rows):
                    found.append(lot)
            if is_whole:
                self.assertEqual(calm_lots(there), maximal(found))


class AlarmTest(unittest.TestCase):
    def test_alarms_that_are_no_quarrels(self):
        # The other one never gets what it wants, so it sets nothing; in the front anybody does it at any time.
        there = company("do up undo down key/back", "do want key else 3/do bee/do set/end", starts=["0 0"],
                        deeds=DEEDS.replace("want: needs a 1, a to 2", "want: needs b 1, b to 0"))
        self.assertEqual(quarrels(there), ())
        self.assertEqual(alarms(there), ((0, "left"),))

    def test_none(self):
        self.assertEqual(alarms(BOTH), ())
        self.assertEqual(alarms(CALM), ())

    def test_other_harms_are_no_alarms(self):
        there = company("do up", "do set")
        self.assertIn("again", harms(front(there, 0)))
        self.assertEqual(alarms(there), ())

    def test_fronts_that_are_none(self):
        there = company("do tell undo off/back", "do set")
        for call in (lambda: alarms(there), lambda: rough(there, 1), lambda: rough(company("end", "end", "do tell undo off"), 0)):
            with self.assertRaises(InvalidSystem) as caught:
                call()
            self.assertEqual(caught.exception.word, "street")
        self.assertEqual(rough(there, 0), (0,))

    def test_random_companies(self):
        seen = 0
        for seed in range(120):
            there = random_company(seed, 2 + seed % 2, {"key": 1.0})
            try:
                fronts = [front(there, member) for member in range(len(there))]
            except InvalidSystem:
                continue
            known = quarrels(there)
            wanted = [(at, harm) for at, row in enumerate(fronts) for harm in harms(row) if harm in THREE]
            self.assertEqual(alarms(there), tuple(row for row in wanted if row not in known))
            seen += alarms(there) != ()
        self.assertGreater(seen, 2)


class RoughTest(unittest.TestCase):
    def test_rough_lines(self):
        there = company("do up undo down/do set undo clr/do none/back", "do up", "do none")
        self.assertEqual(rough(there, 0), (1,))
        self.assertEqual(rough(company("do up undo down/do none/back", "do set"), 0), (0,))
        self.assertEqual(rough(company("do up undo down/do none/back", "do down"), 0), ())
        self.assertEqual(rough(company("do up/do none/back", "do down"), 1), (0,))

    def test_peeling_among_others(self):
        # [66]: without rough lines there are no quarrels "stuck" and "left".
        smooth = 0
        for seed in range(300):
            there = random_company(seed, 2 + seed % 2)
            for member in range(len(there)):
                try:
                    lines = rough(there, member)
                    system = front(there, member)
                except InvalidSystem:
                    continue
                self.assertEqual(lines, tuple(at for at in do_lines(system.editions[0]) if not clean(system, 0, at)))
                if lines == ():
                    smooth += 1
                    self.assertTrue({harm for at, harm in quarrels(there) if at == member} <= {"noticed"})
        self.assertGreater(smooth, 20)


class QuietPaperTest(unittest.TestCase):
    def test_all_standings_that_come_about(self):
        papers = 0
        for seed in range(110):
            there = random_company(seed, 2 if seed % 3 else 3)
            for member in range(len(there)):
                found, states, is_whole = plain_walk(there, member, most=900)
                if is_whole:
                    paper = quiet_paper(there, member)
                    self.assertEqual(paper is None, bool(found))
                    if paper is not None:
                        papers += 1
                        self.assertEqual(set(paper), {standing(there, member, row) for row in states})
                        self.assertIs(quiet_holds(there, member, paper), True)
        self.assertGreater(papers, 60)

    def test_by_hand(self):
        there = company("do set undo clr/back", "do none key", starts=["0 0"])
        first, done, taking, last, gone = (
            (0, False, False, ()), (1, False, False, ((0, "clr", "ok"),)), (1, True, False, ((0, "clr", "ok"),)),
            (1, True, False, ()), (-1, True, False, ()),
        )
        mine = [((0, 0), first, None), ((1, 0), first, "ok"), ((1, 0), done, None), ((1, 0), taking, None),
                ((0, 0), taking, "ok"), ((0, 0), last, None), ((0, 0), gone, None)]
        others = [(first, None), (first, "ok"), ((1, False, False, ()), None), ((-1, False, False, ()), None)]
        wanted = {(scene, (0, 0), False, ((there_, held), other)) for scene, there_, held in mine for other in others}
        paper = quiet_paper(there, 0)
        self.assertEqual((len(paper), set(paper)), (28, wanted))
        self.assertIs(quiet_holds(there, 0, tuple(wanted)), True)
        for row in wanted:
            self.assertIs(quiet_holds(there, 0, tuple(wanted - {row})), False)
        self.assertIs(quiet_holds(there, 0, paper[::-1] + paper[3:9]), True)
        # For the other member another shade is told.
        self.assertIs(quiet_holds(there, 1, paper), False)
        self.assertIs(quiet_holds(there, 1, quiet_paper(there, 1)), True)

    def test_put_in_and_otherwise(self):
        there = company("do set undo need/back", "do none", starts=["0 0"], street="none")
        paper = quiet_paper(there, 0)
        first, over = (0, False, False, ()), ((-1, False, False, ()), None)
        gone, last, taking = (-1, True, False, ()), (1, True, False, ()), (1, True, False, ((0, "need", "ok"),))

        def holds(*rows):
            return quiet_holds(there, 0, paper + rows)

        self.assertIs(holds(((2, 1), (0, 1), True, ((gone, None), over))), True)
        self.assertIs(holds(((2, 1), (0, 1), True, ((first, None), over))), False)
        # gone is next: at the shade, and with nothing noticed.
        self.assertIs(holds(((2, 1), (2, 1), False, ((last, None), over))), False)
        behind = ((2, 1), (2, 1), False, ((gone, None), over))
        self.assertIs(holds(((2, 1), (2, 1), False, ((last, None), over)), behind), True)
        self.assertIs(holds(((2, 1), (2, 1), True, ((last, None), over)), behind[:2] + (True, behind[3])), False)
        left = ((2, 1), (1, 1), False, ((last, None), over))
        self.assertIs(holds(left, ((2, 1), (1, 1), False, ((gone, None), over))), False)
        # A stuck opposite is told by its writing.
        stuck = ((2, 1), (2, 1), False, ((taking, "no"), over))
        rest = (((2, 1), (2, 1), False, ((last, None), over)), behind)
        self.assertIs(holds(stuck, *rest), False)
        self.assertIs(holds(((2, 1), (2, 1), False, ((taking, "ok"), over)), *rest), True)
        # It is not the member's own harm if another one is stuck or leaves something.
        swapped = Company(there.members[::-1])
        paper = quiet_paper(swapped, 1)
        self.assertIs(quiet_holds(swapped, 1, paper), True)
        rows = (((2, 1), (2, 1), True, (over, (taking, "no"))), ((2, 1), (2, 1), True, (over, (last, None))),
                ((2, 1), (2, 1), True, (over, (gone, None))))
        self.assertIs(quiet_holds(swapped, 0, quiet_paper(swapped, 0) + rows), True)

    def test_forms(self):
        there = company("do tell undo off ahead/do clr undo clr else 2/back", "do none/cut k", starts=["2 0"])
        paper = quiet_paper(there, 0)
        gone, over = ((-1, True, False, ()), None), ((-1, False, False, ()), None)
        self.assertIs(quiet_holds(there, 0, paper + (((0, 0), (0, 1), True, (gone, over)),)), True)
        stands = [(-2, True, False, ()), (0, True, False, ()), (4, False, False, ()), (0, False, True, ()), (0, 0, False, ()),
                  (True, False, False, ()), [-1, True, False, ()], (-1, True, False), None, (-1, True, False, []),
                  (-1, True, False, ((0, "off", "ok"),)), (-1, True, False, ((0, "off", "ok 3"),)),
                  (-1, True, False, ((1, "off", "ok"),)), (-1, True, False, ((0, "clr", "ok 1"),)),
                  (2, True, True, ((0, "off", "ok 1"),))]
        helds = [((0, False, False, ()), "ok"), ((0, False, False, ()), "ok 3"), ((0, False, False, ()), "ok 1 1"),
                 ((0, False, False, ()), "yes"), ((0, False, False, ()), 0), ((0, False, False, ()), False),
                 ((0, False, False, ()), ""), ((0, False, False, ()), ["no"]), ((2, False, False, ()), "ok"),
                 ((-1, True, False, ()), "no"), ((2, True, False, ()), "ok"), ((0, False, False, ()), "ok 01")]
        rows = [((0, 0), (0, 1), True, ((row, None), over)) for row in stands]
        rows += [((0, 0), (0, 1), True, (row, over)) for row in helds]
        rows += [((0, 0), (0, 1), True, (over, gone, over)), ((0, 0), (0, 1), True, (over,)), ((0, 0), (0, 1), True, [over, gone]),
                 ((0, 0), (0, 1), 1, (gone, over)), ((0, 0), (0, 1), None, (gone, over)), ((3, 0), (0, 1), True, (gone, over)),
                 ((0, 0), (0,), True, (gone, over)), ((0, False), (0, 1), True, (gone, over)), ((0, 0), (0, 1), True),
                 [(0, 0), (0, 1), True, (gone, over)], ((0, 0), (0, 1), True, (gone + (None,), over)),
                 ((0, 0), (0, 1), True, (list(gone), over)), ((0, 0), (0, 1), True, (gone, over), None)]
        for row in rows:
            self.assertIs(quiet_holds(there, 0, paper + (row,)), False, row)
        self.assertIs(quiet_holds(there, 0, list(paper)), False)
        self.assertIs(quiet_holds(there, 0, ()), False)

    def test_held_answers_that_do_not_come_about(self):
        # Each answer of the right form can be held; what is written then is read by the plan.
        there = company("do tell undo off/cut k/end", "end", starts=["2 0"])
        paper, over = quiet_paper(there, 0), ((-1, False, False, ()), None)
        scene = (0, 0)
        first, cut = (0, False, False, ()), (2, False, False, ())
        done, last = (1, False, False, ((0, "off", "ok 1"),)), (-1, False, False, ())
        rows = [(scene, scene, False, ((first, "ok 1"), over)), (scene, scene, False, ((done, None), over)),
                (scene, scene, False, ((cut, None), over)), (scene, scene, False, ((last, None), over))]
        self.assertIs(quiet_holds(there, 0, paper + tuple(rows)), True)
        for at in (1, 2, 3):
            less = paper + tuple(rows[:at] + rows[at + 1:])
            self.assertIs(quiet_holds(there, 0, less), all(row in less for row in rows), at)
        refused = (1, False, False, ())
        self.assertIs(quiet_holds(there, 0, paper + ((scene, scene, False, ((first, "no"), over)),)), False)
        rows = [(scene, scene, False, ((first, "no"), over)), (scene, scene, False, ((refused, None), over))] + rows[2:]
        self.assertIs(quiet_holds(there, 0, paper + tuple(rows)), True)

    def test_any_values(self):
        paper = quiet_paper(CALM, 0)
        for value in any_values():
            self.assertIs(quiet_holds(CALM, 0, value), False)
            self.assertIs(quiet_holds(CALM, 0, paper + (value,)), False)
            for at in range(4):
                row = list(paper[0])
                row[at] = value
                wanted = at < 3 and value is False
                self.assertIs(quiet_holds(CALM, 0, paper + (tuple(row),)), wanted and tuple(row) in paper)

    def test_papers_with_one_standing_otherwise(self):
        for seed in range(80):
            there = random_company(seed, 2)
            paper = quiet_paper(there, 0)
            if paper is None or len(paper) > 150:
                continue
            for at in range(len(paper)):
                # All standings come about, so none of them can be left out.
                self.assertIs(quiet_holds(there, 0, paper[:at] + paper[at + 1:]), False)
            scene, shade, is_noticed, hosts = paper[-1]
            flipped = paper[:-1] + ((scene, shade, not is_noticed, hosts),)
            self.assertIs(quiet_holds(there, 0, flipped), False)

    def test_by_parameter_names(self):
        paper = quiet_paper(member=1, company=CALM)
        self.assertIs(quiet_holds(value=paper, member=1, company=CALM), True)
        self.assertIsNone(quiet_paper(BOTH, 1))


if __name__ == "__main__":
    unittest.main()
