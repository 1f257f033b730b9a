import random
import unittest

from asneverbegun.harms import harms
from asneverbegun.opposites import clean
from asneverbegun.peels import hidden, layers, left_holds, left_paper
from asneverbegun.plans import do_lines, stand
from asneverbegun.systems import System
from plainly import Plainly, left_steps, logs_of_stands
from samples import BARE, KEYED, TEXT, made, random_system
from values import any_values

BUSY = BARE.with_street(["book", "rest"])
THERE = System.read(TEXT.replace("free else 3", "free").replace("end\nback", "back"))
DEEDS = "pay: m by 1, tells m; rest: m back; one: m to 1; zero: m to 0; none: nothing; want: needs m 1, m to 2"
FIVE = {"again", "unlike", "loose", "astray", "stale"}


def is_left_paper(system, edition, value, logs):
    """Whether a tuple of triples of the right form is a left paper; logs leads to each stand in it."""
    first = stand(system.editions[edition], ())
    if not all((scene, scene, first) in value for scene in system.starts):
        return False
    for triple in value:
        rows = left_steps(system, edition, triple, logs[triple[2]])
        if rows is None or not all(row in value for row in rows):
            return False
    return True


class LayersTest(unittest.TestCase):
    def layers(self, scene, *log):
        return layers(self.system, 0, scene, stand(self.system.editions[0], log))

    def test_the_examples(self):
        there = stand(THERE.editions[0], ["book ok", "pay ok"])
        self.assertEqual(layers(THERE, 0, (1, 1), there), ((1, 1), (1, 0), (0, 0)))
        self.assertEqual((left_holds(THERE, 0, left_paper(THERE, 0)), hidden(THERE, 0)), (True, ()))
        self.assertIs(left_paper(BUSY, 0) is None, False)

    def test_layers(self):
        self.system = made("m 3, a 2", "pay: m by 1, tells m; rest: m back; put: a to 1; clr: needs a 1, a to 0",
                           "do pay undo rest/do put undo clr/do pay/back")
        self.assertEqual(self.layers((2, 0)), ((2, 0),))
        self.assertEqual(self.layers((2, 0), "pay ok 1"), ((2, 0), (1, 0)))
        self.assertEqual(self.layers((2, 1), "pay ok 0", "put ok"), ((2, 1), (2, 0), (0, 0)))
        self.assertEqual(self.layers((2, 1), "pay ok 0", "put ok", "pay ok 2", "back"), ((2, 1), (2, 0), (0, 0)))
        self.assertEqual(self.layers((2, 0), "pay ok 0", "put ok", "pay ok 2", "back", "undo clr ok"), ((2, 0), (0, 0)))
        self.assertIsNone(self.layers((2, 0), "pay ok 0", "put ok"))
        self.assertEqual(self.layers((2, 0), "pay ok 0", "put no"), ((2, 0), (0, 0)))

    def test_at_the_end(self):
        self.system = made("m 3", DEEDS, "do pay undo rest")
        self.assertEqual(self.layers((1,), "pay ok 2", "end"), ((1,), (2,)))
        self.assertEqual(layers(scene=(0,), stand=(-1, True, False, ()), edition=0, system=self.system), ((0,),))

    def test_told_by_clean_lines(self):
        # If all lines are clean, the last of the layers is the shade.
        seen = 0
        for seed in range(400):
            system = random_system(seed)
            for edition, plan in enumerate(system.editions):
                plainly = Plainly(system, edition, 200)
                if plainly.is_whole and all(clean(system, edition, at) for at in do_lines(plan)):
                    seen += 1
                    for state in plainly.edges:
                        if state.held is None:
                            there = layers(system, edition, state.scene, plainly.stand(state))
                            self.assertEqual(there[-1], state.shade, str(system))
        self.assertGreater(seen, 50)


class LeftTest(unittest.TestCase):
    def test_works_that_are_left_or_stuck(self):
        self.assertIsNone(left_paper(made("m 3", DEEDS, "do pay/back"), 0))
        self.assertIsNone(left_paper(made("m 3", DEEDS, "do zero undo want/back"), 0))
        self.assertIsNone(left_paper(made("m 3", DEEDS, "do pay undo zero/back", starts=["0", "1"]), 0))
        self.assertIsNone(hidden(made("m 3", DEEDS, "do pay/back"), 0))
        self.assertIsNotNone(left_paper(made("m 3", DEEDS, "do pay undo zero/back"), 0))

    def test_behind_sure_and_cut(self):
        # What was done ahead of `sure` and `cut` is not left.
        for line in ("sure", "cut k"):
            system = made("m 3", DEEDS, "do one/%s/do pay undo rest/back" % line)
            self.assertTrue(left_holds(system, 0, left_paper(system, 0)))
        self.assertIsNone(left_paper(made("m 3", DEEDS, "do one/do pay undo rest/back"), 0))
        self.assertIsNone(left_paper(made("m 3", DEEDS, "do none/cut k/do pay/back"), 0))

    def test_plans_that_go_round(self):
        system = made("m 3", DEEDS, "do pay undo rest/do want undo one else 4/cut k/go 0/back")
        paper = left_paper(system, 0)
        self.assertTrue(left_holds(system, 0, paper))
        self.assertEqual(hidden(system, 0), ())

    def test_the_street_is_done_at_the_shade_too(self):
        system = made("m 3", "pay: m by 1; rest: m by 2; one: m to 1", "do pay undo rest/back", street="one")
        self.assertIsNone(left_paper(system, 0))
        system = made("m 3", "pay: m by 1; rest: m by 2; two: m by 2", "do pay undo rest/back", street="two")
        paper = left_paper(system, 0)
        self.assertEqual(len(paper), 3 + 3 + 3 + 3 + 3)
        self.assertTrue(left_holds(system, 0, paper))

    def test_hidden_lines(self):
        # What the opposite of line 0 leaves is hidden by the one of line 1, and the other way about.
        deeds = "set: a to 1; none: nothing; clr: a to 0"
        system = made("a 2", deeds, "do set undo none/do none undo clr/back")
        self.assertEqual(hidden(system, 0), (0, 1))
        self.assertTrue(left_holds(system, 0, left_paper(system, 0)))
        # Lines that are not backed do not count.
        system = made("a 2", deeds, "do set undo none/do none undo clr/do none else 5/cut k/do set undo set/back")
        self.assertEqual(hidden(system, 0), ())
        self.assertEqual([clean(system, 0, at) for at in (0, 1, 2, 4)], [False, False, True, True])
        self.assertEqual(hidden(made("a 2", deeds, "do set undo none/do none undo clr/sure/back"), 0), ())

    def test_each_edition_by_itself(self):
        system = made("m 3", DEEDS, "do pay/back", "do pay undo rest/back")
        self.assertIsNone(left_paper(system, 0))
        self.assertTrue(left_holds(system, 1, left_paper(system, 1)))
        self.assertEqual(hidden(edition=1, system=system), ())

    def test_keys_and_open_entries_make_no_difference(self):
        plain = made("m 3", DEEDS, "do pay undo rest/do pay undo rest/back", keys="-")
        geared = made("m 3", DEEDS, "do pay undo rest ahead key/do pay undo rest ahead claim key/back", keys="-")
        self.assertEqual(sorted(left_paper(plain, 0)), sorted(left_paper(geared, 0)))
        self.assertTrue(left_holds(geared, 0, left_paper(plain, 0)))

    def test_random_systems(self):
        kinds = set()
        for seed in range(300):
            system = random_system(seed)
            for edition in range(len(system.editions)):
                plainly = Plainly(system, edition, 250)
                if plainly.is_whole:
                    is_left = any({"stuck", "left"} & edge.met for edge in plainly.all_edges())
                    paper = left_paper(system, edition)
                    self.assertEqual(paper is None, is_left, str(system))
                    kinds.add((is_left, hidden(system, edition)))
                    if paper is None:
                        self.assertIsNone(hidden(system, edition))
                        continue
                    self.assertIs(left_holds(system, edition, paper), True)
                    lines = [at for at in plainly.backed() if not plainly.clean(at)]
                    self.assertEqual(hidden(system, edition), tuple(lines))
        self.assertGreater(len(kinds), 3)

    def test_it_agrees_with_harms(self):
        for seed in range(600):
            system = random_system(seed, editions=1, tags=["cut", "word"])
            met = set(harms(system))
            if left_paper(system, 0) is None:
                self.assertTrue(met & {"stuck", "left"}, str(system))
            elif not met & FIVE:
                self.assertFalse(met & {"stuck", "left"}, str(system))

    def test_peeling(self):
        # [34]: clean lines leave nothing; a line that is not clean, with `back` behind it, does.
        for seed in range(300):
            system = random_system(seed, editions=1, style="back")
            lines = do_lines(system.editions[0])
            if all(clean(system, 0, at) for at in lines):
                self.assertIsNotNone(left_paper(system, 0), str(system))
            if len(system.editions[0]) == 2 and lines == (0,) and not clean(system, 0, 0):
                self.assertIsNone(left_paper(system, 0), str(system))


class LeftPaperTest(unittest.TestCase):
    def setUp(self):
        self.system = made("m 3", DEEDS, "do pay undo rest/sure/cut k/do pay undo rest/back", street="none")
        self.paper = left_paper(self.system, 0)

    def test_left_out_put_in_and_otherwise(self):
        self.assertEqual(len(self.paper), 8)
        self.assertIs(left_holds(self.system, 0, self.paper[::-1]), True)
        self.assertIs(left_holds(self.system, 0, self.paper + self.paper[2:5]), True)
        for triple in self.paper:
            self.assertIs(left_holds(self.system, 0, tuple(row for row in self.paper if row != triple)), False)
        for triple in (((0,), (2,), (-1, True, False, ())), ((0,), (2,), (-1, True, False, ((0, "rest", "ok 1"),))),
                       ((2,), (2,), (4, True, False, ((0, "rest", "ok 2"), (3, "rest", "ok 0"))))):
            value = self.paper + (triple,)
            if triple[2][0] == 4:
                self.assertIs(left_holds(self.system, 0, value), False)
                value += (((0,), (2,), (4, True, False, ((0, "rest", "ok 2"),))), ((2,), (2,), (4, True, False, ())),
                          ((2,), (2,), (-1, True, False, ())))
            self.assertIs(left_holds(self.system, 0, value), True)
        self.assertIs(left_holds(self.system, 0, self.paper + (((1,), (0,), (4, True, False, ())),)), False)
        stuck = made("m 3", DEEDS, "do one undo want/back", street="none")
        rows = left_paper(stuck, 0)
        self.assertIsNone(rows)
        self.assertIs(left_holds(self.system, 0, ()), False)

    def test_an_opposite_that_is_answered_no(self):
        system = made("m 3", DEEDS, "do none undo want else 1/end/back")
        paper = left_paper(system, 0)
        bad = ((0,), (0,), (2, True, False, ((0, "want", "ok"),)))
        behind = ((0,), (0,), (2, True, False, ()))
        gone = ((0,), (0,), (-1, True, False, ()))
        self.assertIs(left_holds(system, 0, paper + (behind, gone)), True)
        self.assertIs(left_holds(system, 0, paper + (bad, behind, gone)), False)
        good = ((1,), (2,), (2, True, False, ((0, "want", "ok"),)))
        rest = (((2,), (2,), (2, True, False, ())), ((2,), (2,), (-1, True, False, ())))
        self.assertIs(left_holds(system, 0, paper + (good,) + rest), True)
        self.assertIs(left_holds(system, 0, paper + (good,) + rest[:1]), False)

    def test_forms(self):
        scene = (0,)
        for row in ((scene, scene, (0, False, True, ())), (scene, scene, None), (scene, scene), ((3,), scene, (5, False)),
                    (scene, (3,), (-1, True, False, ())), ((True,), scene, (-1, True, False, ())),
                    (scene, scene, (-2, True, False, ())), (scene, scene, (1, True, False, ())),
                    [scene, scene, (-1, True, False, ())], (scene, scene, (-1, 1, False, ()))):
            self.assertIs(left_holds(self.system, 0, self.paper + (row,)), False, row)
        self.assertIs(left_holds(self.system, 0, self.paper + ((scene, scene, (-1, True, False, ())),)), True)
        opened = made("m 3", DEEDS, "do none ahead")
        paper = left_paper(opened, 0)
        self.assertIs(left_holds(opened, 0, paper), True)
        self.assertIs(left_holds(opened, 0, paper + ((scene, scene, (0, False, True, ())),)), False)

    def test_any_values(self):
        for value in any_values():
            self.assertIs(left_holds(self.system, 0, value), False)
            self.assertIs(left_holds(KEYED, 0, (value,)), False)
            self.assertIs(left_holds(self.system, 0, self.paper + (value,)), False)
            for at in range(3):
                row = [(0,), (0,), (-1, True, False, ())]
                row[at] = value
                fits = at < 2 and repr(value) in ("(0,)", "(1,)")
                self.assertIs(left_holds(self.system, 0, self.paper + (tuple(row),)), fits)
        self.assertIs(left_holds(self.system, 0, list(self.paper)), False)

    def test_papers_with_changes(self):
        # Each paper that is changed a little is one just if it is one by the second stage.
        found = {True: 0, False: 0}
        for seed in range(150):
            system = random_system(seed)
            logs = logs_of_stands(system, 0)
            stands = [there for there in logs if not there[2]]
            paper = left_paper(system, 0)
            if paper is None or any(row[2] not in logs for row in paper):
                continue
            rng = random.Random(seed)
            scenes = system.world.scenes()
            for _ in range(6):
                rows = list(paper)
                for _ in range(rng.choice([1, 1, 2])):
                    if rng.random() < 0.7:
                        rows.append((rng.choice(scenes), rng.choice(scenes), rng.choice(stands)))
                    else:
                        rows.pop(rng.randrange(len(rows)))
                rng.shuffle(rows)
                wanted = is_left_paper(system, 0, rows, logs)
                found[wanted] += 1
                self.assertIs(left_holds(system, 0, tuple(rows)), wanted, str(system))
        self.assertGreater(min(found.values()), 20)


if __name__ == "__main__":
    unittest.main()
