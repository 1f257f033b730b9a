import unittest

from asneverbegun.books import Book, failing
from asneverbegun.calm import calm_paper
from asneverbegun.editions import reading_paper, reads
from asneverbegun.errors import InvalidBook, NoName
from asneverbegun.events import HARMS
from asneverbegun.harms import happens, harms, story
from asneverbegun.knowledge import full_book, gaps, known, spare, under
from asneverbegun.opposites import clean, clean_paper
from asneverbegun.plans import Plan, do_lines
from asneverbegun.systems import System
from asneverbegun.worlds import Deed, World
from samples import BARE, KEYED, LIGHT, NEWER, made, random_system
from values import any_values

FIRST = ("story", "m", "again", (0, 0), 0, ("next", "write", "next", "over 0", "next"))
EXAMPLE = Book([("m", BARE), ("k", KEYED), ("w", BARE.with_street(["free"]))], [FIRST, ("story", "k") + FIRST[2:]])
DEEDS = "pay: m by 1, tells m; rest: m back; none: nothing"
ROUND = made("m 3", DEEDS, "do pay undo rest key/do none undo none key/back", street="none")
FIVE = ("again", "unlike", "loose", "astray", "stale")


def clean_claims(name, system):
    rows = []
    for edition, plan in enumerate(system.editions):
        for at in do_lines(plan):
            if clean(system, edition, at):
                rows.append(("clean", name, edition, at, clean_paper(system, edition, at)))
    return rows


def calm_claims(name, system, words=("again", "unlike", "loose", "astray")):
    return [("calm", name, harm, calm_paper(system, harm)) for harm in words]


def told(system, claims, name="m"):
    return dict(known(Book([(name, system)], claims), name))


class UnderTest(unittest.TestCase):
    def test_the_examples(self):
        self.assertEqual(known(EXAMPLE, "m"), (("again", "happens"), ("astray", "never"), ("noticed", "never"), ("stale", "never")))
        self.assertEqual(known(EXAMPLE, "w"), (("again", "happens"), ("astray", "never"), ("stale", "never")))
        self.assertEqual(failing(EXAMPLE), (1,))
        self.assertEqual((under(BARE, BARE.with_street(["free"])), under(BARE, KEYED)), (True, False))
        self.assertEqual(gaps(EXAMPLE, "w"), ("left", "loose", "noticed", "stuck", "unlike"))

    def test_under(self):
        one = made("m 3", DEEDS, "do pay", street="none", starts=["0"])
        for other in (one, made("m 3", DEEDS, "do pay", street="none pay", starts=["0", "1"]),
                      made("m 3", DEEDS, "do pay", "do none", street="pay none", starts=["2", "0"]),
                      made("m 3", DEEDS, "do pay", "do pay", street="none")):
            self.assertIs(under(one, other), True)
            self.assertIs(under(other, one), other == one)

    def test_not_in_one_thing(self):
        one = made("m 3", DEEDS, "do pay", street="none", starts=["0"])
        more = dict(street="none", starts=["0"])
        for other in (
            made("m 4", DEEDS, "do pay", **more), made("n 3", DEEDS.replace("m ", "n ").replace(" m", " n"), "do pay", **more),
            made("m 3", DEEDS.replace("by 1", "by 2"), "do pay", **more), made("m 3", DEEDS + "; more: nothing", "do pay", **more),
            made("m 3", "; ".join(DEEDS.split("; ")[::-1]), "do pay", **more), one.with_tags(["cut"]), one.with_tags([]),
            made("m 3", DEEDS, "do pay", street="none", starts=["1"]), one.with_street([]), one.with_street(["pay"]),
            made("m 3", DEEDS, "do pay key", **more), made("m 3", DEEDS, "do none", "do pay", **more),
        ):
            self.assertIs(under(one, other), False, str(other))
        self.assertIs(under(one=one.with_street([]), other=one), True)

    def test_each_history_of_the_one_is_one_of_the_other(self):
        for seed in range(120):
            system = random_system(seed, editions=2)
            parts = [system.with_editions(system.editions[:1]), system.with_street(system.street[1:]),
                     System(system.world, system.editions, system.starts[:1], system.street, system.tags)]
            for part in parts:
                self.assertTrue(under(part, system))
                if part.editions == system.editions:
                    for harm in harms(part):
                        self.assertTrue(happens(system, harm), str(system))


class RulesTest(unittest.TestCase):
    def test_nothing_at_all(self):
        system = NEWER.with_tags(["cut"]).with_street(["free"])
        self.assertEqual(told(system, []), {})
        self.assertEqual(gaps(Book([("m", system)]), "m"), tuple(sorted(HARMS)))

    def test_a_story(self):
        system = NEWER.with_tags(["cut"]).with_street(["free"])
        for harm in harms(system):
            self.assertEqual(told(system, [("story", "m", harm) + story(system, harm)]), {harm: "happens"})
        row = story(system, "astray")
        self.assertEqual(told(system, [("story", "m", "astray") + row[:2] + (row[2] + ("next",),)]), {})

    def test_a_calm_paper(self):
        system = NEWER.with_street(["free"])
        paper = calm_paper(system, "again")
        self.assertEqual(told(system, [("calm", "m", "again", paper)]), {"again": "never", "stale": "never"})
        self.assertEqual(told(system, [("calm", "m", "again", paper[1:])]), {"stale": "never"})
        self.assertEqual(told(system.with_tags(["word"]), [("calm", "m", "again", paper)]), {})

    def test_both_words_among_the_tags(self):
        system = NEWER.with_street(["free"])
        self.assertEqual(told(system, []), {"stale": "never"})
        for tags in ([], ["cut"], ["word"]):
            self.assertEqual(told(system.with_tags(tags), []), {})

    def test_one_edition_or_a_reading_paper(self):
        one = ROUND.with_tags([])
        self.assertEqual(told(one, []), {"astray": "never"})
        two = one.with_editions([one.editions[0], one.editions[0]])
        self.assertEqual(told(two, []), {})
        self.assertEqual(told(two, [("reads", "m", reading_paper(two))]), {"astray": "never"})
        self.assertEqual(told(two, [("reads", "m", reading_paper(two)[1:])]), {})

    def test_an_empty_street(self):
        self.assertEqual(told(NEWER.with_tags([]), []), {"noticed": "never"})
        self.assertEqual(told(NEWER.with_tags([]).with_street(["free"]), []), {})

    def test_clean_papers_for_all_lines(self):
        calm, lines = calm_claims("m", ROUND, FIVE[:3]), clean_claims("m", ROUND)
        five = {harm: "never" for harm in FIVE}
        whole = dict(five, stuck="never", left="never")
        self.assertEqual(told(ROUND, calm + lines), whole)
        self.assertEqual(told(ROUND, calm), five)
        for claim in calm + lines:
            less = told(ROUND, [row for row in calm + lines if row != claim])
            self.assertFalse({"stuck", "left"} & set(less), claim[:4])
        # With two editions this rule tells nothing, though all lines are clean.
        two = ROUND.with_editions([ROUND.editions[0], ROUND.editions[0]])
        rows = told(two, calm_claims("m", two) + clean_claims("m", two) + [("reads", "m", reading_paper(two))])
        self.assertEqual(rows, five)
        # Lines of which there are none need no papers.
        empty = made("m 3", DEEDS, "sure/back", street="none")
        self.assertEqual(told(empty, calm_claims("m", empty, FIVE[:3])), whole)

    def test_clean_papers_with_a_story_of_the_five(self):
        system = BARE.with_street(["free"])
        rows = told(system, clean_claims("m", system) + [("story", "m", "again") + story(system, "again")])
        self.assertEqual(rows, {"again": "happens", "astray": "never", "stale": "never"})

    def test_what_happens_in_a_system_under_this_one(self):
        more = BARE.with_street(["free"])
        book = Book([("m", BARE), ("w", more)], [FIRST])
        self.assertEqual(dict(known(book, "w")), {"again": "happens", "astray": "never", "stale": "never"})
        # The other way about it does not go.
        book = Book([("m", BARE), ("w", more)], [("story", "w") + FIRST[2:]])
        self.assertEqual(dict(known(book, "m")), {"astray": "never", "stale": "never", "noticed": "never"})

    def test_what_never_happens_in_a_system_that_this_one_is_under(self):
        less = ROUND.with_street([])
        book = Book([("l", less), ("r", ROUND)], calm_claims("r", ROUND, ("unlike",)))
        self.assertEqual(dict(known(book, "l")), {"unlike": "never", "astray": "never", "stale": "never", "noticed": "never"})
        book = Book([("l", less), ("r", ROUND)], calm_claims("l", less, ("unlike",)))
        self.assertEqual(dict(known(book, "r")), {"astray": "never", "stale": "never"})

    def test_one_rule_leads_to_another(self):
        # "again" goes over from r to l; then the clean papers of l tell "stuck" and "left"; these go on to e.
        less = ROUND.with_street([])
        world = less.world
        start = System(world, less.editions, [(0,)], [], less.tags)
        wide = System(world, less.editions, [(0,), (1,)], [], less.tags)
        top = System(world, less.editions, [(0,), (1,)], ["none"], less.tags)
        claims = calm_claims("t", top, ("again",)) + calm_claims("l", wide, ("unlike", "loose")) + clean_claims("l", wide)
        book = Book([("e", start), ("l", wide), ("t", top)], claims)
        whole = {harm: "never" for harm in HARMS}
        self.assertEqual(dict(known(book, "e")), whole)
        self.assertEqual(dict(known(book, "l")), whole)
        self.assertEqual(dict(known(book, "t")), {"again": "never", "astray": "never", "stale": "never"})
        for turned in (Book(book.systems[::-1], claims[::-1]), Book(book.systems[1:] + book.systems[:1], claims)):
            self.assertEqual(known(turned, "e"), known(book, "e"))

    def test_equal_systems_of_two_names(self):
        book = Book([("m", BARE), ("x", BARE)], [FIRST])
        self.assertEqual(known(book, "m"), known(book, "x"))

    def test_claims_of_others_tell_nothing(self):
        book = Book([("m", BARE), ("k", KEYED)], calm_claims("k", KEYED))
        self.assertEqual(dict(known(book, "m")), {"astray": "never", "stale": "never", "noticed": "never"})
        other = made("m 2", "set: m to 1", "do set/do set/back")
        book = Book([("r", ROUND), ("x", other)], calm_claims("r", ROUND) + [row[:1] + ("x",) + row[2:] for row in clean_claims("r", ROUND)])
        self.assertEqual(dict(known(book, "r")), {harm: "never" for harm in FIVE})
        # The papers hold for an equal system by the other name, and are nothing for this one all the same.
        book = Book([("r", ROUND), ("x", ROUND.with_tags(["cut"]))], calm_claims("r", ROUND) + clean_claims("x", ROUND))
        self.assertEqual((failing(book), dict(known(book, "r"))), ((), {harm: "never" for harm in FIVE}))

    def test_names(self):
        for value in any_values() + ["M", ("m",), "mm"]:
            for call in (known, gaps):
                with self.assertRaises(NoName) as caught:
                    call(EXAMPLE, value)
                self.assertIs(caught.exception.name, value)
        self.assertEqual(known(name="m", book=EXAMPLE), known(EXAMPLE, "m"))
        self.assertEqual(gaps(name="m", book=EXAMPLE), ("left", "loose", "stuck", "unlike"))


class FullBookTest(unittest.TestCase):
    def assert_full(self, system):
        book = full_book("m", system)
        self.assertEqual(book.systems, (("m", system),))
        self.assertEqual(failing(book), ())
        both = len(system.tags) == 2
        happening = harms(system)
        self.assertEqual(sorted(claim[2] for claim in book.claims if claim[0] == "story"), list(happening))
        calm = [harm for harm in FIVE[:4] if both and calm_paper(system, harm) is not None]
        self.assertEqual([claim[2] for claim in book.claims if claim[0] == "calm"], calm)
        lines = [(at, line) for at, plan in enumerate(system.editions) for line in do_lines(plan) if clean(system, at, line)]
        self.assertEqual([claim[2:4] for claim in book.claims if claim[0] == "clean"], lines)
        is_read = len(system.editions) == 2 and reads(system)
        self.assertEqual(len([claim for claim in book.claims if claim[0] == "reads"]), int(is_read))
        self.assertEqual(len(book), len(happening) + len(calm) + len(lines) + is_read)
        return book

    def test_some_systems(self):
        for system in (BARE, KEYED, NEWER, LIGHT, ROUND, ROUND.with_tags([]), made("m 3", DEEDS, "do pay", "do pay")):
            book = self.assert_full(system)
            self.assertEqual(Book.read(str(book)), book)

    def test_what_is_known_is_true(self):
        words = set()
        for seed in range(250):
            system = random_system(seed)
            book = self.assert_full(system)
            rows, happening = known(book, "m"), harms(system)
            self.assertEqual(rows, tuple(sorted(rows)))
            for harm, word in rows:
                self.assertIs(word == "happens", harm in happening, str(system))
                words.add((harm, word))
            self.assertTrue(set(happening) <= {harm for harm, _ in rows})
            self.assertEqual(gaps(book, "m"), tuple(sorted(set(HARMS) - {harm for harm, _ in rows})))
            if len(system.tags) == 2 and not set(happening) & {"stuck", "left", "noticed"}:
                self.assertTrue(set(FIVE) <= {harm for harm, _ in rows})
                is_clean = all(clean(system, 0, at) for at in do_lines(system.editions[0]))
                if not set(happening) & set(FIVE) and len(system.editions) == 1 and is_clean:
                    self.assertTrue(set(gaps(book, "m")) <= {"noticed"})
        self.assertGreater(len(words), 14)

    def test_what_is_known_of_several_systems_is_true(self):
        for seed in range(80):
            system = random_system(seed, street=["d", "e"])
            part = System(system.world, system.editions[:1], system.starts[:1], system.street[:1], system.tags)
            for first, second in (("p", "s"), ("s", "p")):
                both = {"p": part, "s": system}
                book = full_book(first, both[first]).with_system(second, both[second])
                for name, there in both.items():
                    for harm, word in known(book, name):
                        self.assertIs(word == "happens", happens(there, harm), str(there))

    def test_no_names(self):
        for value in any_values() + ["M", "do", "abcde"]:
            if value not in ("a", "set"):
                with self.assertRaises(InvalidBook) as caught:
                    full_book(value, KEYED)
                self.assertEqual(caught.exception.word, "systems")
        self.assertEqual(full_book(system=KEYED, name="a").systems[0][0], "a")


class SpareTest(unittest.TestCase):
    def test_claims_that_fail_are_spare(self):
        self.assertEqual(spare(EXAMPLE), (1,))
        self.assertEqual(spare(book=Book()), ())

    def test_claims_that_tell_the_same(self):
        book = Book([("m", BARE)], [FIRST, FIRST, ("story", "m", "unlike") + story(BARE, "unlike")])
        self.assertEqual(spare(book), (0, 1))
        self.assertEqual(spare(book.without(0)), ())

    def test_what_is_known_without_them(self):
        # With one edition `astray` is known anyway, and clean papers tell nothing as long as one of them lacks.
        book = full_book("m", KEYED)
        words = [book.claims[at][:3] for at in spare(book)]
        self.assertEqual(words, [("calm", "m", "astray")])
        lines = clean_claims("m", KEYED)
        self.assertEqual(spare(Book([("m", KEYED)], lines)), (0, 1))

    def test_alike_is_always_spare(self):
        book = Book([("m", KEYED)], [("alike", "m", (0, 0), 0, (), ())])
        self.assertEqual((failing(book), spare(book)), ((), (0,)))

    def test_what_another_name_knows_counts(self):
        book = Book([("m", BARE), ("w", BARE.with_street(["free"]))], [FIRST, ("story", "w") + FIRST[2:]])
        self.assertEqual(spare(book), (1,))

    def test_by_leaving_each_out(self):
        for seed in range(60):
            system = random_system(seed)
            book = full_book("m", system).with_book(full_book("x", system.with_street([])))
            rows = {name: known(book, name) for name in ("m", "x")}
            wanted = []
            for at in range(len(book)):
                less = book.without(at)
                if all(known(less, name) == rows[name] for name in rows):
                    wanted.append(at)
            self.assertEqual(spare(book), tuple(wanted))


class MadeTest(unittest.TestCase):
    def test_worlds_are_compared_by_what_they_are(self):
        world = World([("a", 2)], [Deed("set", [], [("a", "to", 1)])])
        same = World((("a", 2),), (Deed("set", (), (("a", "to", 1),)),))
        self.assertTrue(under(System(world, [Plan(["do set"])], [(0,)]), System(same, (Plan(("do set",)),), [(0,), (1,)])))


if __name__ == "__main__":
    unittest.main()
