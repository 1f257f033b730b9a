import unittest

from asneverbegun.calm import calm_holds, calm_paper
from asneverbegun.errors import InvalidHarm
from asneverbegun.harms import harms, sound
from asneverbegun.posts import PostForm, post_of, state_of
from asneverbegun.systems import System
from asneverbegun.walker import Walker
from naive import Naive, lean
from samples import BARE, KEYED, LIGHT, NEWER, ONE, OTHER, PAY, SET, made, random_system
from values import OBJECTS, any_values

WORDS = ("again", "unlike", "loose", "astray")
FIVE = {"again", "unlike", "loose", "astray", "stale"}
STANDS = ((0, False, False, ()),)
PAIR = (("pay", ()), "ok")
LATE = (("pay", ()), ("key",), "here")


def early(system, depth, most):
    """The harms that are met ahead of the first five in histories of so many events, and whether all were seen."""
    naive, found = Naive(system), set()
    layer = {naive.begin(start, edition) for start in system.starts for edition in range(len(system.editions))}
    seen = set(layer)
    for _ in range(depth):
        following = set()
        for state in layer:
            for event, _ in naive.can(state):
                behind, met = naive.do(state, event)
                found |= met
                if not met & FIVE and lean(behind) not in seen:
                    seen.add(lean(behind))
                    following.add(lean(behind))
        layer = following
        if len(seen) > most:
            return found, False
    return found, True


class CalmTest(unittest.TestCase):
    def test_the_examples(self):
        self.assertIs(calm_holds(ONE, "again", calm_paper(ONE, "again")), True)
        self.assertIsNone(calm_paper(BARE, "again"))
        self.assertIs(calm_holds(KEYED, "unlike", calm_paper(KEYED, "unlike")), True)

    def test_ten_posts_come_about_in_one(self):
        done, over = ((1, False, False, ()),), ((-1, False, False, ()),)
        wanted = {
            ((0,), 0, STANDS, False, None, None, (), False, None),
            ((1,), 0, STANDS, False, PAIR, PAIR, (PAIR,), False, None),
            ((1,), 0, done, False, None, None, (), False, None),
            ((1,), 0, over, False, None, None, (), False, None),
            ((0,), 0, STANDS, False, None, None, (), True, LATE),
            ((1,), 0, STANDS, False, PAIR, PAIR, (PAIR,), True, LATE),
            ((1,), 0, STANDS, False, None, PAIR, (PAIR,), True, None),
            ((1,), 0, STANDS, False, PAIR, PAIR, (PAIR,), True, None),
            ((1,), 0, done, False, None, None, (), True, None),
            ((1,), 0, over, False, None, None, (), True, None),
        }
        for harm in WORDS:
            self.assertTrue(calm_holds(ONE, harm, tuple(wanted)))
            for post in wanted:
                self.assertFalse(calm_holds(ONE, harm, tuple(wanted - {post})), post)

    def test_papers_in_another_order_and_twice(self):
        for system in (ONE, KEYED):
            paper = calm_paper(system, "again")
            self.assertIsInstance(paper, tuple)
            self.assertTrue(calm_holds(system, "again", paper[::-1]))
            self.assertTrue(calm_holds(system, "again", paper + paper[:3]))

    def test_a_paper_for_one_harm_can_hold_for_others(self):
        paper = calm_paper(KEYED, "again")
        for harm in WORDS:
            self.assertTrue(calm_holds(KEYED, harm, paper))
            self.assertFalse(calm_holds(BARE, harm, paper))

    def test_greater_papers_hold_too(self):
        wide = KEYED.world.scenes()
        more = System(KEYED.world, KEYED.editions, wide, ["free"], KEYED.tags)
        paper = calm_paper(more, "again")
        self.assertTrue(calm_holds(more, "again", paper))
        self.assertTrue(calm_holds(KEYED, "again", paper))
        self.assertFalse(calm_holds(more, "again", calm_paper(KEYED, "again")))

    def test_what_lacks(self):
        for system in (KEYED, made("a 2", OTHER, "do put ahead key/sure/back", "do put ahead key/cut k/end")):
            for harm in WORDS:
                paper = calm_paper(system, harm)
                if paper is not None:
                    for at in range(len(paper)):
                        self.assertFalse(calm_holds(system, harm, paper[:at] + paper[at + 1:]))

    def test_steps_that_meet_another_harm_lead_nowhere(self):
        self.assertIsNone(calm_paper(PAY, "again"))
        paper = calm_paper(PAY, "unlike")
        self.assertTrue(calm_holds(PAY, "unlike", paper))
        self.assertFalse(calm_holds(PAY, "again", paper))

    def test_which_have_papers(self):
        def papers(system):
            return [harm for harm in WORDS if calm_paper(system, harm) is not None]

        self.assertEqual(papers(BARE), ["loose", "astray"])
        self.assertEqual(papers(KEYED), list(WORDS))
        self.assertEqual(papers(SET), ["loose", "astray"])
        self.assertEqual(papers(LIGHT), ["unlike", "loose", "astray"])
        self.assertEqual(papers(NEWER), ["again", "unlike"])
        self.assertEqual(papers(made("a 2", OTHER, "do put key", "do none key")), ["again", "loose"])

    def test_early_harms_have_no_paper(self):
        # The late deed can only come again when it was taken back, and ahead of that the work is stuck.
        deeds = "put: a to 1; clr: a to 0; pay: b to 1; bad: needs b 0, b to 0"
        plan = made("a 2, b 2", deeds, "do put undo clr/do pay undo bad/back")
        self.assertEqual(harms(plan), ("stuck",))
        self.assertIsNone(calm_paper(plan, "again"))
        self.assertTrue(calm_holds(plan, "unlike", calm_paper(plan, "unlike")))

    def test_papers_against_a_walk(self):
        for seed in range(150):
            system = random_system(seed, tags=["cut", "word"])
            found, is_whole = early(system, 8, 8000)
            papers = {harm: calm_paper(system, harm) for harm in WORDS}
            for harm, paper in papers.items():
                if paper is not None:
                    self.assertTrue(calm_holds(system, harm, paper), str(system))
                    self.assertNotIn(harm, found, str(system))
            if sound(system):
                for paper in papers.values():
                    self.assertTrue(all([calm_holds(system, harm, paper) for harm in WORDS]))

    def test_no_harm_of_the_four(self):
        for value in any_values() + ["stale", "stuck", "left", "noticed", "Again"]:
            with self.assertRaises(InvalidHarm):
                calm_paper(ONE, value)
            with self.assertRaises(InvalidHarm):
                calm_holds(ONE, value, ())

    def test_any_values_as_papers(self):
        for value in any_values():
            self.assertIs(calm_holds(ONE, "again", value), False)
        paper = calm_paper(ONE, "again")
        self.assertFalse(calm_holds(ONE, "again", list(paper)))
        for value in any_values():
            self.assertFalse(calm_holds(ONE, "again", paper + (value,)))

    def test_by_parameter_names(self):
        paper = calm_paper(harm="again", system=ONE)
        self.assertTrue(calm_holds(value=paper, harm="again", system=ONE))


class FormTest(unittest.TestCase):
    """Posts that no step leads to are let, if they have the form; without it nothing holds."""

    def setUp(self):
        deeds = "pay: m by 1, tells m; rest: m back, tells m; none: nothing"
        lines = "do pay undo rest ahead key/do none undo none/sure/go 4/back"
        self.system = made("m 3", deeds, lines, "do pay/end", street="pay")

    def fits(self, post):
        """Whether a post has the form."""
        return PostForm(self.system).fits(post)

    def post(self, **other):
        row = dict(
            scene=(0,), edition=0, stands=((0, False, False, ()), (0, False, False, ())), is_open=False, held=None,
            mark=None, memory=(), is_torn=False, late=None,
        )
        row.update(other)
        return tuple(row.values())

    def test_the_plain_one(self):
        self.assertTrue(self.fits(self.post()))
        self.assertFalse(self.fits(list(self.post())))
        self.assertFalse(self.fits(self.post() + (None,)))
        self.assertFalse(self.fits(self.post()[:-1]))

    def test_scenes_editions_and_bools(self):
        for wrong in (dict(scene=(3,)), dict(scene=[0]), dict(scene=(False,)), dict(scene=(0, 0)), dict(scene=()),
                      dict(edition=False), dict(edition=2), dict(edition=2, stands=(None, None)),
                      dict(edition=-1), dict(edition=None), dict(is_open=0),
                      dict(is_torn=1), dict(is_torn=None), dict(is_open=None), dict(edition="0")):
            self.assertFalse(self.fits(self.post(**wrong)), wrong)
        self.assertTrue(self.fits(self.post(scene=(2,), is_torn=True)))

    def test_stands(self):
        newer = (0, False, False, ())
        stack = ((0, "rest", "ok 2"), (1, "none", "ok"))
        for stand in ((-1, False, False, stack), (5, False, False, ()), (4, True, False, stack), (4, False, False, ()),
                      (-1, True, False, ()), (2, False, False, stack[::-1] * 3), (-1, True, False, stack)):
            self.assertTrue(self.fits(self.post(stands=(stand, newer))), stand)
            self.assertTrue(self.fits(self.post(stands=(stand, None))), stand)
            self.assertFalse(self.fits(self.post(stands=(None, stand))), stand)
        for stand in ((3, False, False, ()), (6, False, False, ()), (-2, False, False, ()), (0, True, False, ()),
                      (0, False, True, ()), (5, True, False, ()), (4, True, True, stack[:1]), (0, 0, False, ()),
                      (0, False, 0, ()), (0, False, False, []), (False, False, False, ()), [0, False, False, ()],
                      (0, False, False), (0, False, False, (stack[0][:2],)), (0, False, False, ((2, "rest", "ok 2"),)),
                      (0, False, False, ((0, "none", "ok 2"),)), (0, False, False, ((0, "rest", "ok"),)),
                      (0, False, False, ((0, "rest", "ok 3"),)), (0, False, False, ((0, "rest", "no"),)),
                      (0, False, False, ((0, "rest", "ok 02"),)), (0, False, False, ((False, "rest", "ok 2"),)),
                      (0, False, False, (list(stack[0]),)), (0, False, False, ((0, "rest", "ok 2 2"),)),
                      (0, False, False, ((-5, "rest", "ok 2"),)), (0, False, False, (None,)), 0, None, (),
                      (0, False, False, ((0, "rest", None),)), ("0", False, False, ())):
            self.assertFalse(self.fits(self.post(stands=(stand, newer))), stand)
        for stands in ((newer,), (newer, newer, newer), [newer, newer], None, (), newer):
            self.assertFalse(self.fits(self.post(stands=stands)), stands)
        self.assertFalse(self.fits(self.post(edition=1)))
        self.assertTrue(self.fits(self.post(edition=1, stands=(None, newer))))
        self.assertFalse(self.fits(self.post(edition=1, stands=(None, None))))

    def test_open(self):
        newer = (0, False, False, ())
        self.assertTrue(self.fits(self.post(is_open=True)))
        self.assertFalse(self.fits(self.post(is_open=True, stands=((1, False, False, ()), newer))))
        self.assertFalse(self.fits(self.post(is_open=True, stands=((2, False, False, ()), newer))))
        self.assertTrue(self.fits(self.post(is_open=True, stands=((4, True, False, ((0, "rest", "ok 0"),)), newer))))
        self.assertFalse(self.fits(self.post(is_open=True, stands=((4, True, False, ((1, "none", "ok"),)), newer))))
        self.assertFalse(self.fits(self.post(is_open=True, stands=((4, True, False, ()), newer))))
        self.assertFalse(self.fits(self.post(is_open=True, edition=1, stands=(None, newer))))

    def test_held(self):
        newer = (0, False, False, ())
        pay, none, back = ("pay", ()), ("none", ()), ("undo rest", (("m", 2),))
        self.assertTrue(self.fits(self.post(is_open=True, held=(pay, "ok 1"))))
        self.assertTrue(self.fits(self.post(is_open=True, held=(pay, "no"))))
        self.assertFalse(self.fits(self.post(is_open=False, held=(pay, "ok 1"))))
        self.assertTrue(self.fits(self.post(edition=1, stands=(None, newer), held=(pay, "ok 1"))))
        self.assertTrue(self.fits(self.post(stands=((1, False, False, ()), None), held=(none, "ok"))))
        taking = ((4, True, False, ((0, "rest", "ok 2"),)), None)
        self.assertTrue(self.fits(self.post(stands=taking, is_open=True, held=(back, "ok 0"))))
        for held in ((back, "ok 0"), (none, "ok"), (pay, "ok"), (pay, "ok 3"), (pay, "?"), (pay, None), [pay, "ok 1"],
                     (pay, "ok 1", 0), (("pay", []), "ok 1"), (("pay", (("m", 1),)), "ok 1"), ("pay", "ok 1"), 0, ()):
            self.assertFalse(self.fits(self.post(is_open=True, held=held)), held)
        for old in ((("m", 1),), (), (("m", True),), [("m", 2)]):
            self.assertFalse(self.fits(self.post(stands=taking, is_open=True, held=(("undo rest", old), "ok 0"))), old)
        self.assertFalse(self.fits(self.post(stands=((2, False, False, ()), None), held=(none, "ok"))))

    def test_marks_memories_and_late_deeds(self):
        good = [(("pay", ()), "ok 2"), (("pay", ()), "no"), (("none", ()), "ok"), (("undo rest", ()), "ok 1"),
                (("undo rest", (("m", 2),)), "no"), (("undo none", ()), "ok"), (("undo none", (("m", 0),)), "ok")]
        bad = [(("rest", ()), "ok 0"), (("undo pay", ()), "ok 0"), (("pay", ()), "ok"), (("pay", ()), "ok 3"), 0, (), "pay",
               (("pay", (("m", 1),)), "ok 1"), (("undo rest", (("m", 3),)), "no"), (("undo rest", (("x", 1),)), "no"),
               (("undo rest", (("m", 1), ("m", 2))), "no"), (("undo rest", (("m", 1), ("m", 1))), "no"), (("pay", ()),),
               (("undo rest", [("m", 1)]), "no"), (("undo rest", (["m", 1],)), "no"), (("undo rest", (("m", True),)), "no"),
               (("none", ()), "ok "), ("none", "ok"), [("none", ()), "ok"], (["none", ()], "ok"), (("", ()), "ok"),
               (("undo ", ()), "ok"), (("none", ()), ["ok"]), (([], ()), "ok"), (("undo rest", (([], 1),)), "no")]
        for pair in good:
            self.assertTrue(self.fits(self.post(mark=pair)), pair)
            self.assertTrue(self.fits(self.post(memory=(pair,))), pair)
            self.assertTrue(self.fits(self.post(late=(pair[0], (), "deed"))), pair)
        for pair in bad:
            self.assertFalse(self.fits(self.post(mark=pair)), pair)
            self.assertFalse(self.fits(self.post(memory=(pair,))), pair)
        self.assertTrue(self.fits(self.post(memory=((("none", ()), "ok"), (("pay", ()), "ok 2")))))
        self.assertFalse(self.fits(self.post(memory=((("pay", ()), "ok 2"), (("none", ()), "ok")))))
        self.assertFalse(self.fits(self.post(memory=((("pay", ()), "ok 1"), (("pay", ()), "ok 2")))))
        self.assertFalse(self.fits(self.post(memory=((("pay", ()), "ok 1"),) * 2)))
        self.assertFalse(self.fits(self.post(memory=[(("pay", ()), "ok 1")])))
        self.assertFalse(self.fits(self.post(memory=None)))

    def test_late_deeds(self):
        pay = ("pay", ())
        for gear in ((), ("ahead",), ("ahead", "key"), ("key",)):
            for phase in ("here", "changed", "deed", "other"):
                self.assertTrue(self.fits(self.post(late=(pay, gear, phase))))
        for late in ((pay, ("claim",), "here"), (pay, ("key", "ahead"), "here"), (pay, ["key"], "here"), (pay, (), "gone"),
                     (pay, (), None), (pay, ("key", "key"), "here"), [pay, (), "here"], (pay, ()), (pay, (), "here", 0), 0,
                     (("rest", ()), (), "here"), ("pay", (), "here"), (pay, None, "here"), (pay, ("cut",), "here"),
                     (pay, (), ["here"]), (pay, (0,), "here")):
            self.assertFalse(self.fits(self.post(late=late)), late)

    def test_any_values_at_each_place(self):
        right = self.post()
        paper = calm_paper(self.system, "loose")
        for value in any_values() + OBJECTS:
            for at in range(9):
                post = right[:at] + (value,) + right[at + 1:]
                if self.fits(post):
                    self.assertIn((at, value if at in (0, 1, 3, 7) else None), {
                        (0, (0,)), (0, (1,)), (1, 0), (3, True), (3, False), (7, True), (7, False), (4, None), (5, None),
                        (6, None), (8, None)})
                else:
                    self.assertFalse(calm_holds(self.system, "loose", paper + (post,)))

    def test_posts_that_do_not_come_about(self):
        pair, none = (("pay", ()), "ok 1"), (("none", ()), "ok")
        late = (("pay", ()), ("key",), "here")
        post = self.post(scene=(2,), stands=((1, False, False, ()), None), held=none, mark=none, memory=(pair,), late=late)
        walker = Walker(self.system, False)
        queue, extra = [post], []
        while queue:
            post = queue.pop()
            if post not in extra:
                extra.append(post)
                queue += [post_of(walker.chart, step[3]) for step in walker.steps(state_of(walker.chart, post)) if step[3]]
        whole = []
        for harm in WORDS:
            paper = calm_paper(self.system, harm)
            if paper is not None:
                whole.append(harm)
                self.assertTrue(calm_holds(self.system, harm, paper + tuple(extra)))
                self.assertFalse(calm_holds(self.system, harm, paper + tuple(extra[:1])))
        self.assertEqual(whole, ["unlike", "loose"])


class StepsTest(unittest.TestCase):
    """Single steps, by hand: from a post of a paper, which harm is met, and to which posts it leads."""

    def steps(self, system, post):
        self.assertTrue(PostForm(system).fits(post), post)
        walker = Walker(system, False)
        out = []
        for label, _, harms, behind, _ in walker.steps(state_of(walker.chart, post)):
            out.append((label[0], harms[0] if harms else post_of(walker.chart, behind)))
        return out

    def setUp(self):
        self.system = made("a 3", "put: a to 1, tells a; add: a by 1; clr: a to 0", "do put undo clr key/do add/back",
                           "do add ahead claim/sure", street="clr")
        self.first = ((0, False, False, ()), (0, False, False, ()))

    def test_from_the_beginning(self):
        post = ((0,), 0, self.first, False, None, None, (), False, None)
        pair, put = (("put", ()), "ok 0"), ("put", ())
        one = (None, self.first[1])
        self.assertEqual(self.steps(self.system, post), [
            ("street clr", post),
            ("next", ((1,), 0, self.first, False, pair, pair, (pair,), False, None)),
            ("over 0", post),
            ("over 0", ((0,), 0, self.first, False, None, None, (), True, (put, ("key",), "here"))),
            ("over 1", ((0,), 1, one, False, None, None, (), False, None)),
            ("over 1", ((0,), 1, one, False, None, None, (), True, (put, ("key",), "here"))),
        ])

    def test_asking(self):
        mark = (("add", ()), "ok")
        marked = ((0,), 0, self.first, False, None, mark, (), True, None)
        self.assertIn(("next", "again"), self.steps(self.system, marked))
        same = ((1,), 0, self.first, False, None, mark, (), True, None)
        pair = (("put", ()), "ok 1")
        self.assertIn(("next", ((1,), 0, self.first, False, pair, mark, (pair,), True, None)), self.steps(self.system, same))
        known = ((0,), 0, self.first, False, None, mark, (pair,), True, None)
        self.assertIn(("next", ((0,), 0, self.first, False, pair, mark, (pair,), True, None)), self.steps(self.system, known))

    def test_opening(self):
        one = (None, self.first[1])
        post = ((0,), 1, one, False, None, None, (), False, None)
        self.assertEqual(self.steps(self.system, post)[1:], [
            ("next", ((0,), 1, one, True, None, None, (), False, None)), ("over 1", post)])
        other = ((0,), 1, one, False, None, (("put", ()), "ok 0"), (), False, None)
        self.assertIn(("next", "unlike"), self.steps(self.system, other))
        same = ((0,), 1, one, False, None, (("add", ()), "no"), (), False, None)
        self.assertIn(("next", ((0,), 1, one, True, None, same[5], (), False, None)), self.steps(self.system, same))
        opened = ((0,), 1, one, True, None, None, (), False, None)
        pair = (("add", ()), "ok")
        # The line claims, so that its pending deed makes no second step.
        self.assertEqual(self.steps(self.system, opened)[1:], [
            ("next", ((1,), 1, one, True, pair, pair, (), False, None)), ("over 1", opened)])

    def test_writing(self):
        pair = (("put", ()), "ok 1")
        late = (("add", ()), ("key",), "here")
        post = ((1,), 0, self.first, False, pair, pair, (pair,), True, late)
        behind = ((1, False, False, ((0, "clr", "ok 1"),)), None)
        self.assertIn(("write", ((1,), 0, behind, False, None, None, (), True, (("add", ()), ("key",), "changed"))),
                      self.steps(self.system, post))
        post = ((1,), 0, self.first, False, pair, None, (pair,), True, late)
        self.assertIn(("write", ((1,), 0, behind, False, None, None, (), True, (("add", ()), ("key",), "deed"))),
                      self.steps(self.system, post))
        known = (("add", ()), "no")
        post = ((1,), 0, self.first, False, pair, None, (known, pair), True, late)
        self.assertIn(("write", ((1,), 0, behind, False, None, None, (), True, None)), self.steps(self.system, post))
        keyless = (("add", ()), ("ahead",), "here")
        post = ((1,), 0, self.first, False, pair, None, (known, pair), True, keyless)
        self.assertIn(("write", ((1,), 0, behind, False, None, None, (), True, (("add", ()), ("ahead",), "deed"))),
                      self.steps(self.system, post))
        post = ((1,), 0, self.first, False, pair, (("put", ()), "ok 0"), (), True, late)
        self.assertIn(("write", "unlike"), self.steps(self.system, post))
        post = ((1,), 0, self.first, False, pair, known, (), True, late)
        self.assertIn(("write", "unlike"), self.steps(self.system, post))

    def test_other_entries(self):
        one = (None, (1, False, False, ()))
        late = (("put", ()), (), "here")
        post = ((1,), 1, one, False, None, None, (), True, late)
        behind = (None, (2, False, False, ()))
        self.assertIn(("next", ((1,), 1, behind, False, None, None, (), True, (("put", ()), (), "other"))),
                      self.steps(self.system, post))
        marked = ((1,), 1, one, False, None, (("put", ()), "ok 0"), (), True, late)
        self.assertIn(("next", "loose"), self.steps(self.system, marked))

    def test_behind_a_cut(self):
        system = made("a 2", "put: a to 1", "do put/cut k/do put", "cut k", "do put/cut l/end")
        two = made("a 2", "put: a to 1", "cut k/do put", "end/cut k")
        post = ((0,), 0, ((0, False, False, ()), (0, False, False, ())), False, None, None, (), False, None)
        behind = ((1, False, False, ()), (2, False, False, ()))
        self.assertIn(("next", ((0,), 0, behind, False, None, None, (), False, None)), self.steps(two, post))
        post = ((0,), 0, ((1, False, False, ()), None, (0, False, False, ())), False, None, None, (), False, None)
        behind = ((2, False, False, ()), (1, False, False, ()), None)
        self.assertIn(("next", ((0,), 0, behind, False, None, None, (), False, None)), self.steps(system, post))

    def test_taking_over(self):
        pair = (("put", ()), "ok 0")
        held = ((0,), 0, self.first, False, pair, pair, (pair,), False, None)
        one = (None, self.first[1])
        self.assertEqual([row for row in self.steps(self.system, held) if row[0].startswith("over")], [
            ("over 0", ((0,), 0, self.first, False, None, pair, (pair,), True, None)),
            ("over 1", ((0,), 1, one, False, None, pair, (pair,), True, None))])
        torn = held[:7] + (True, None)
        self.assertEqual([row for row in self.steps(self.system, torn) if row[0].startswith("over")], [])
        astray = ((0,), 0, (self.first[0], None), False, None, None, (), True, None)
        self.assertEqual([row for row in self.steps(self.system, astray) if row[0].startswith("over")],
                         [("over 0", astray), ("over 1", "astray")])
        astray = ((0,), 0, (self.first[0], None), False, pair, None, (), False, None)
        self.assertIn(("over 1", "astray"), self.steps(self.system, astray))

    def test_taking_over_open_entries(self):
        for line, is_read in (("do put ahead", True), ("do put", False), ("do clr ahead", False), ("end", False)):
            system = made("a 3", "put: a to 1; clr: a to 0", "do put ahead", line)
            post = ((0,), 0, self.first, True, None, None, (), True, None)
            wanted = ((0,), 1, (None, self.first[1]), True, None, None, (), True, None) if is_read else "astray"
            self.assertEqual([row for row in self.steps(system, post) if row[0] == "over 1"], [("over 1", wanted)], line)

    def test_late_deeds(self):
        put, pair = ("put", ()), (("put", ()), "ok 0")

        def late(post):
            return [row[1] for row in self.steps(self.system, post) if row[0] == "late"]

        post = ((0,), 0, self.first, False, None, None, (), True, (put, (), "here"))
        self.assertEqual(late(post), [((1,), 0, self.first, False, None, pair, (), True, None)])
        post = ((0,), 0, self.first, False, None, None, (), True, (put, ("ahead", "key"), "here"))
        self.assertEqual(late(post), [((1,), 0, self.first, False, None, pair, (pair,), True, None)])
        post = ((0,), 0, self.first, False, None, None, (pair,), True, (put, ("key",), "here"))
        self.assertEqual(late(post), [((0,), 0, self.first, False, None, None, (pair,), True, None)])
        post = ((0,), 0, self.first, False, None, None, (pair,), True, (put, ("ahead",), "here"))
        self.assertEqual(late(post), [((1,), 0, self.first, False, None, pair, (pair,), True, None)])
        post = ((0,), 0, self.first, False, None, (("add", ()), "ok"), (), True, (put, (), "here"))
        self.assertEqual(late(post), ["again"])
        post = ((1,), 0, self.first, False, None, (("add", ()), "ok"), (), True, (put, (), "here"))
        self.assertEqual(late(post), [post[:8] + (None,)])
        for phase, harm in (("changed", "again"), ("deed", "unlike"), ("other", "loose")):
            post = ((0,), 0, self.first, False, None, None, (pair,), True, (put, ("key",), phase))
            self.assertEqual(late(post), [harm])
            post = ((1,), 0, self.first, False, None, None, (pair,), True, (put, ("key",), phase))
            self.assertEqual(late(post), [post[:8] + (None,)])

    def test_late_deeds_and_open_entries(self):
        one = (None, self.first[1])
        post = ((0,), 1, one, True, None, None, (), True, (("put", ()), (), "here"))
        self.assertIn(("late", "unlike"), self.steps(self.system, post))
        post = ((1,), 1, one, True, None, None, (), True, (("put", ()), (), "here"))
        self.assertIn(("late", post[:8] + (None,)), self.steps(self.system, post))
        post = ((0,), 1, one, True, None, None, (), True, (("add", ()), (), "here"))
        mark = (("add", ()), "ok")
        self.assertIn(("late", ((1,), 1, one, True, None, mark, (), True, None)), self.steps(self.system, post))


if __name__ == "__main__":
    unittest.main()
