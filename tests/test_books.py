import random
import unittest

from asneverbegun.books import Book, failing, holds
from asneverbegun.calm import calm_holds, calm_paper
from asneverbegun.claims import claim_text
from asneverbegun.editions import reading_paper
from asneverbegun.errors import (
    InvalidBook, InvalidDeed, InvalidPlan, InvalidSystem, InvalidText, InvalidWorld, NoLine, NoName, Refused,
)
from asneverbegun.harms import harms, story
from asneverbegun.ideals import ideal, seen_as_one
from asneverbegun.opposites import clean_paper
from asneverbegun.plans import Plan
from asneverbegun.stage import play
from asneverbegun.systems import System
from asneverbegun.worlds import World
from samples import BARE, KEYED, NEWER, made, random_history, random_system
from values import SYSTEM, any_values

FIRST = ("story", "m", "again", (0, 0), 0, ("next", "write", "next", "over 0", "next"))
OTHER = ("story", "k") + FIRST[2:]
EXAMPLE = Book([("m", BARE), ("k", KEYED), ("w", BARE.with_street(["free"]))], [FIRST, OTHER])
DEEDS = "pay: m by 1, tells m; rest: m back; one: m to 1; none: nothing"
SMALL = made("m 2", "pay: m by 1", "do pay key/end")
SMALL_LINES = str(SMALL).split("\n")


class BookTest(unittest.TestCase):
    def assert_wrong(self, word, call, *arguments):
        with self.assertRaises(InvalidBook) as caught:
            call(*arguments)
        self.assertEqual(caught.exception.word, word)

    def test_attributes(self):
        systems, claims = [("m", BARE), ("k", KEYED)], [FIRST, FIRST]
        book = Book(systems, claims)
        self.assertEqual((book.systems, book.claims), (tuple(systems), tuple(claims)))
        self.assertIsInstance(book.systems, tuple)
        self.assertIsInstance(book.claims, tuple)
        systems.append(("x", BARE))
        claims.pop()
        self.assertEqual((len(book.systems), len(book)), (2, 2))
        self.assertEqual((Book().systems, Book().claims, len(Book())), ((), (), 0))
        self.assertEqual(Book(claims=(), systems=(("m", BARE),)), Book([("m", BARE)]))

    def test_claims_need_not_hold(self):
        book = Book([("m", BARE)], [FIRST[:2] + ("left",) + FIRST[3:], ("clean", "m", 7, 7, (7,))])
        self.assertEqual(failing(book), (0, 1))

    def test_wrong_systems(self):
        for value in any_values() + [[("m", BARE), ("m", BARE)], [("m", BARE), ("m", KEYED)], [["m", BARE]], [("m", BARE, 1)],
                                     [("do", BARE)], [("", BARE)], [("M", BARE)], [(BARE, "m")], [("m", str(BARE))], {"m": BARE},
                                     [("m", BARE), None], [("m",)], "m", [("m", BARE.world)], [(["m"], BARE)]]:
            if value not in ([], (), [("a", SYSTEM)]):
                self.assert_wrong("systems", Book, value)
                self.assert_wrong("systems", Book, value, None)

    def test_wrong_claims(self):
        for value in any_values() + [[OTHER], [FIRST, OTHER], FIRST, [list(FIRST)], [FIRST[:-1]], [FIRST, None], [FIRST[:1]],
                                     [("story", "do") + FIRST[2:]], claim_text(FIRST), [claim_text(FIRST)]]:
            if value not in ([], ()):
                self.assert_wrong("claims", Book, [("m", BARE)], value)
        self.assert_wrong("claims", Book, [], [FIRST])

    def test_of_name(self):
        self.assertEqual(EXAMPLE.of_name("k"), KEYED)
        self.assertIs(EXAMPLE.of_name("m"), BARE)
        for value in any_values() + ["M", "mm", "do", ("m", BARE)]:
            with self.assertRaises(NoName) as caught:
                EXAMPLE.of_name(value)
            self.assertIs(caught.exception.name, value)

    def test_with_system(self):
        book = Book([("m", BARE)], [FIRST])
        more = book.with_system("k", KEYED)
        self.assertEqual(more, Book([("m", BARE), ("k", KEYED)], [FIRST]))
        self.assertEqual(len(book.systems), 1)
        for name, system in (("m", BARE), ("m", KEYED), ("do", KEYED), ("k", None), ("k", str(KEYED)), (["k"], KEYED), (KEYED, "k")):
            self.assert_wrong("systems", book.with_system, name, system)
        for value in any_values():
            if not isinstance(value, System):
                self.assert_wrong("systems", book.with_system, "k", value)
            if value not in ("a", "set"):
                self.assert_wrong("systems", book.with_system, value, KEYED)

    def test_with_claim(self):
        book = Book([("m", BARE)])
        self.assertEqual(book.with_claim(FIRST).with_claim(FIRST), Book([("m", BARE)], [FIRST, FIRST]))
        for value in any_values() + [OTHER, list(FIRST), [FIRST]]:
            self.assert_wrong("claims", book.with_claim, value)
        self.assertEqual(len(book), 0)

    def test_without(self):
        calm = ("calm", "m", "loose", ())
        book = Book([("m", BARE)], [FIRST, calm, FIRST])
        self.assertEqual(book.without(0), Book([("m", BARE)], [calm, FIRST]))
        self.assertEqual(book.without(1), Book([("m", BARE)], [FIRST, FIRST]))
        self.assertEqual(book.without(2).without(1).without(at=0), Book([("m", BARE)]))
        for value in any_values() + [3, -1, True, False, "0", None, (0,)]:
            if value not in (0, 1) or isinstance(value, bool):
                for call in (book.without, lambda at: holds(book, at)):
                    with self.assertRaises(NoLine) as caught:
                        call(value)
                    self.assertIs(caught.exception.at, value)
        with self.assertRaises(NoLine):
            Book().without(0)

    def test_with_book(self):
        one = Book([("m", BARE), ("k", KEYED)], [FIRST])
        calm = ("calm", "k", "loose", ())
        other = Book([("x", NEWER), ("k", System.read(str(KEYED))), ("y", BARE)], [calm, calm, ("calm", "x", "loose", ())])
        self.assertEqual(
            one.with_book(other),
            Book([("m", BARE), ("k", KEYED), ("x", NEWER), ("y", BARE)], [FIRST, calm, calm, ("calm", "x", "loose", ())]),
        )
        self.assertEqual(one.with_book(one), one)
        self.assertEqual(one.with_book(Book()), one)
        self.assertEqual(Book().with_book(one), one)
        self.assertEqual(one.with_book(other=Book([("k", KEYED)], [calm])).with_book(Book([("k", KEYED)], [calm, calm])),
                         Book(one.systems, [FIRST, calm]))
        self.assert_wrong("systems", one.with_book, Book([("m", KEYED)]))
        self.assert_wrong("systems", one.with_book, Book([("x", BARE), ("k", KEYED.with_tags(["cut"]))]))

    def test_claims_are_told_apart_by_their_texts(self):
        # (1,) and (True,) are equal to Python, but their texts are not.
        one, other = ("reads", "m", (1,)), ("reads", "m", (True,))
        book = Book([("m", BARE)], [one]).with_book(Book([("m", BARE)], [other]))
        self.assertEqual([claim_text(claim) for claim in book.claims], ["reads m (1)", "reads m (yes)"])
        self.assertFalse(Book([("m", BARE)], [one]) == Book([("m", BARE)], [other]))

    def test_equal(self):
        book = Book([("m", BARE), ("k", KEYED)], [FIRST, OTHER])
        self.assertTrue(book == Book((("m", System.read(str(BARE))), ("k", KEYED)), (FIRST, OTHER)))
        for other in (Book([("k", KEYED), ("m", BARE)], [FIRST, OTHER]), Book(book.systems, [OTHER, FIRST]), Book(book.systems),
                      Book(book.systems, [FIRST, OTHER, OTHER]), Book(), str(book), book.systems, None):
            self.assertFalse(book == other)
            self.assertTrue(book != other)

    def test_not_iterable(self):
        with self.assertRaises(TypeError):
            iter(EXAMPLE)
        with self.assertRaises(TypeError):
            list(EXAMPLE)


class TextTest(unittest.TestCase):
    def assert_at(self, at, lines):
        text = lines if isinstance(lines, str) else "\n".join(lines)
        with self.assertRaises(InvalidText) as caught:
            Book.read(text)
        self.assertEqual(caught.exception.at, at, text)

    def test_texts(self):
        self.assertEqual(str(Book((), ())), "")
        self.assertEqual(str(EXAMPLE).split("\n")[-2], 'story m again (0, 0) 0 ("next", "write", "next", "over 0", "next")')
        book = Book([("s", SMALL)], [("calm", "s", "loose", ())])
        self.assertEqual(str(book).split("\n"), ["system s"] + SMALL_LINES + ["calm s loose ()"])
        self.assertEqual(Book.read(text=str(book)), book)

    def test_written_and_read(self):
        for book in (Book(), EXAMPLE, Book([("m", BARE)]), Book([("m", SMALL), ("x", SMALL)], [("reads", "x", ((),))])):
            found = Book.read(str(book))
            self.assertEqual(found, book)
            self.assertEqual([name for name, _ in found.systems], [name for name, _ in book.systems])
            self.assertEqual(repr(found.claims), repr(book.claims))

    def test_random_books(self):
        for seed in range(40):
            systems = [(name, random_system(seed * 3 + at)) for at, name in enumerate(("a", "bb", "ccc"))]
            claims = []
            for name, system in systems:
                for harm in harms(system):
                    claims.append(("story", name, harm) + story(system, harm))
            book = Book(systems, claims)
            self.assertEqual(Book.read(str(book)), book)
            self.assertEqual(failing(book), ())

    def test_any_values(self):
        for value in any_values():
            if value != "":
                with self.assertRaises(InvalidText) as caught:
                    Book.read(value)
                self.assertEqual(caught.exception.at, 0)
        self.assertEqual(Book.read(""), Book())

    def test_lines_that_are_wrong_at_their_place(self):
        head, calm = ["system s"] + SMALL_LINES, "calm s loose ()"
        size = len(head)
        self.assertEqual(len(Book.read("\n".join(head + [calm, calm]))), 2)
        for first in ("", "System s", "system", "system ", "system do", "system s s", " system s", "cells m 2", "system S", "story s", "x"):
            self.assert_at(0, [first] + SMALL_LINES + [calm])
        for last in ("", "calm s loose", "calm", "end ", "calms s loose ()", "system x", "system do", "system s", "reads s", "calm s loose () "):
            is_claim_line = last.startswith(("calm ", "reads "))
            # A head is of its form: what lacks is the text behind it.
            at = size + 1 if last in ("system x", "system s") else size
            self.assert_at(at, head + [last])
            self.assert_at(size + 1, head + [calm, last])
            if is_claim_line:
                self.assert_at(size, head + [last, calm])

    def test_systems_behind_claims(self):
        head, calm = ["system s"] + SMALL_LINES, "calm s loose ()"
        self.assert_at(len(head) + 1, head + [calm] + head)
        self.assert_at(0, [calm + " "] + head)
        self.assert_at(1, [calm] + head)

    def test_the_text_of_a_system_is_wrong(self):
        head, calm = ["system s"] + SMALL_LINES, "calm s loose ()"
        size = len(head)
        for ahead in ([], head):
            there = len(ahead)
            for tail in ([], [calm], ["system x"] + SMALL_LINES):
                # Wrong at the first line, at the last one, and left out.
                self.assert_at(there + 1, ahead + ["system y", "cell m 2"] + SMALL_LINES[1:] + tail)
                self.assert_at(there + size - 1, ahead + ["system y"] + SMALL_LINES[:-1] + ["ends"] + tail)
                self.assert_at(there + 1, ahead + ["system y"] + SMALL_LINES[1:] + tail)
                self.assert_at(there + 1, ahead + ["system y"] + tail)
                self.assert_at(there + 7, ahead + ["system y"] + SMALL_LINES[:6] + tail)
                self.assert_at(there + 2, ahead + ["system y"] + SMALL_LINES[:1] * 2 + SMALL_LINES[1:] + tail)
                self.assert_at(there + size, ahead + ["system y"] + SMALL_LINES + [""] + tail)

    def test_each_line_left_out_and_twice(self):
        text = str(Book([("s", SMALL), ("x", NEWER)], [("calm", "s", "loose", ()), ("reads", "x", ())]))
        lines = text.split("\n")
        for at in range(len(lines)):
            for other in (lines[:at] + lines[at + 1:], lines[:at + 1] + lines[at:]):
                try:
                    Book.read("\n".join(other))
                except InvalidText as error:
                    self.assertIn(error.at, (at, at + 1))
                except (InvalidBook, InvalidPlan, InvalidSystem, InvalidWorld):
                    pass

    def test_the_first_wrong_line_comes_ahead_of_other_errors(self):
        # Two deeds of one name: InvalidWorld, but only if all lines are of their form.
        bad = ["system b"] + SMALL_LINES[:5] + SMALL_LINES[4:]
        good = ["system s"] + SMALL_LINES
        with self.assertRaises(InvalidWorld) as caught:
            Book.read("\n".join(bad + good + ["calm z loose ()"]))
        self.assertEqual(caught.exception.word, "deeds")
        self.assert_at(len(bad + good), bad + good + ["calm z"])
        self.assert_at(len(bad) + 1, bad + ["system s", "x"])

    def test_the_errors_of_systems_come_in_their_order_and_then_those_of_the_book(self):
        world = ["system a"] + SMALL_LINES[:5] + SMALL_LINES[4:]
        plan = ["system b"] + SMALL_LINES[:-1] + ["go 9"]
        system = ["system c"] + [line.replace("street -", "street nope") for line in SMALL_LINES]
        good = ["system d"] + SMALL_LINES
        rows = {InvalidWorld: world, InvalidPlan: plan, InvalidSystem: system}
        for first in rows:
            for second in rows:
                with self.assertRaises(first):
                    Book.read("\n".join(rows[first] + rows[second] + good + good))
        for lines, word in ((good + good, "systems"), (good + ["calm x loose ()"], "claims"), (["calm x loose ()"], "claims"),
                            (good + good + ["calm x loose ()"], "systems")):
            with self.assertRaises(InvalidBook) as caught:
                Book.read("\n".join(lines))
            self.assertEqual(caught.exception.word, word)

    def test_systems_without_deeds(self):
        empty = System(World([("a", 2)], []), [Plan(["end"])], [(0,)])
        text = str(Book([("e", empty)]))
        self.assert_at(text.split("\n").index("edition"), text)


class HoldsTest(unittest.TestCase):
    def holds(self, system, *things):
        return holds(Book([("m", system)], [(things[0], "m") + things[1:]]), 0)

    def test_the_example(self):
        self.assertEqual(failing(EXAMPLE), (1,))
        self.assertEqual((holds(EXAMPLE, 0), holds(book=EXAMPLE, at=1)), (True, False))

    def test_stories(self):
        events = FIRST[5]
        self.assertIs(self.holds(BARE, "story", "again", (0, 0), 0, events), True)
        two = play(BARE, (0, 0), 0, events + ("write", "over 0"))
        self.assertEqual(two.met, ((4, "again"),))
        for harm, start, edition, rows in (
            ("unlike", (0, 0), 0, events), ("again", (0, 1), 0, events), ("again", (0,), 0, events), ("again", (), 0, events),
            ("again", (0, 0), 1, events), ("again", (0, 0), 10 ** 30, events), ("again", (0, 0), 0, ()),
            ("again", (0, 0), 0, events[:-1]), ("again", (0, 0), 0, events + ("write",)), ("again", (0, 0), 0, events[:2] + events),
            ("again", (0, 0), 0, ("write",)), ("again", (0, 0), 0, events[:4] + ("over 9999",)),
            ("again", (0, 0), 0, events + ("over 0", "next")), ("again", (0, 0), 0, events + ("next",)),
        ):
            self.assertIs(self.holds(BARE, "story", harm, start, edition, rows), False, (harm, start, edition, rows))

    def test_stories_with_two_harms(self):
        # The second harm comes behind the first one: only this one is told.
        system = made("m 3", "pay: m by 1; rest: m by 2", "do pay undo rest/back")
        events = ("next", "over 0", "next", "write")
        met = play(system, (0,), 0, events).met
        self.assertEqual(met, ((2, "again"),))
        self.assertIs(self.holds(system, "story", "again", (0,), 0, events[:3]), True)
        behind = events + ("next", "next", "write", "next")
        self.assertEqual(play(system, (0,), 0, behind).met, ((2, "again"), (7, "left")))
        self.assertIs(self.holds(system, "story", "left", (0,), 0, behind), False)
        # Both harms of one event hold.
        twice = made("m 3", "pay: m by 1; want: needs m 0, m to 0", "do pay/back", street="want")
        events = ("next", "write", "street want", "next", "next")
        self.assertEqual(play(twice, (0,), 0, events).met, ((4, "left"), (4, "noticed")))
        for harm in ("left", "noticed"):
            self.assertIs(self.holds(twice, "story", harm, (0,), 0, events), True)

    def test_alike(self):
        torn = ("over 0", "next", "over 0", "next", "write", "late 0")
        plainly = ideal(KEYED, (0, 0), 0, torn)
        self.assertIs(self.holds(KEYED, "alike", (0, 0), 0, torn, plainly), True)
        self.assertIs(self.holds(KEYED, "alike", (0, 0), 0, plainly, torn), True)
        self.assertIs(self.holds(KEYED, "alike", (0, 0), 0, (), ("over 0",)), True)
        for start, edition, events, others in (
            ((0, 1), 0, torn, plainly), ((0, 0), 1, torn, plainly), ((0, 0), 0, torn, plainly[:-1]), ((0, 0), 0, ("write",), ("write",)),
            ((0, 0), 0, torn, ("late 0",)), ((0, 0), 0, ("late 0",), torn), ((), 0, (), ()), ((0, 0), 0, (), ("next",)),
        ):
            self.assertIs(self.holds(KEYED, "alike", start, edition, events, others), False)

    def test_alike_as_seen_as_one(self):
        found = {True: 0, False: 0}
        for seed in range(200):
            system = random_system(seed)
            rng = random.Random(seed)
            start, edition, events = random_history(rng, system, 5)
            for _ in range(4):
                _, _, others = random_history(rng, system, rng.randrange(6))
                try:
                    wanted = seen_as_one(system, start, edition, events, others)
                except Refused:
                    wanted = False
                self.assertIs(self.holds(system, "alike", start, edition, tuple(events), tuple(others)), wanted)
                found[wanted] += 1
        self.assertGreater(min(found.values()), 20)

    def test_clean(self):
        system = made("m 3", DEEDS, "do pay undo rest key/do none/back", "do one/do one/end")
        paper = clean_paper(system, 0, 0)
        self.assertIs(self.holds(system, "clean", 0, 0, paper), True)
        self.assertIs(self.holds(system, "clean", 0, 1, clean_paper(system, 0, 1)), True)
        for edition, at, there in ((0, 1, paper), (0, 2, paper), (0, 3, paper), (1, 0, paper), (2, 0, paper), (9, 9, paper), (0, 0, ()),
                                   (1, 2, ()), (0, 0, paper + (1,)), (0, 10 ** 30, paper), (10 ** 30, 0, paper)):
            self.assertIs(self.holds(system, "clean", edition, at, there), False)
        # A line that is never asked with an answer but `no` has the empty paper.
        self.assertIs(self.holds(made("m 3", DEEDS, "end/do pay"), "clean", 0, 1, ()), True)
        self.assertIs(self.holds(made("m 3", DEEDS, "end/do pay"), "clean", 0, 0, ()), False)

    def test_reads(self):
        system = made("m 3", DEEDS, "do pay undo rest/back", "do pay undo rest key/back")
        paper = reading_paper(system)
        self.assertIs(self.holds(system, "reads", paper), True)
        self.assertIs(self.holds(system, "reads", paper[1:]), False)
        self.assertIs(self.holds(system, "reads", ()), False)
        self.assertIs(self.holds(made("m 3", DEEDS, "do pay undo rest/back"), "reads", paper), False)
        self.assertIs(self.holds(made("m 3", DEEDS, "do pay", "do pay", "do pay"), "reads", paper), False)

    def test_calm(self):
        paper = calm_paper(KEYED, "again")
        for harm in ("again", "unlike", "loose", "astray"):
            self.assertIs(self.holds(KEYED, "calm", harm, paper), True)
        self.assertIs(self.holds(KEYED, "calm", "again", paper[:-1]), False)
        self.assertIs(self.holds(BARE, "calm", "again", paper), False)
        for tags in ([], ["cut"], ["word"]):
            self.assertIs(calm_holds(KEYED.with_tags(tags), "again", paper), True)
            self.assertIs(self.holds(KEYED.with_tags(tags), "calm", "again", paper), False)

    def test_failing(self):
        paper = calm_paper(KEYED, "again")
        book = EXAMPLE.with_claim(("calm", "m", "again", paper)).with_claim(("calm", "k", "again", paper)).with_claim(OTHER)
        self.assertEqual(failing(book), (1, 2, 4))
        self.assertEqual([holds(book, at) for at in range(5)], [True, False, False, True, False])
        self.assertEqual(failing(book=Book()), ())


class DeedTextTest(unittest.TestCase):
    def test_a_deed_that_is_none(self):
        # A deed with a cell twice has no text: its line is wrong, and no InvalidDeed comes out.
        lines = ["system s"] + [line.replace("m by 1", "m by 1, m to 1") for line in SMALL_LINES]
        with self.assertRaises(InvalidText) as caught:
            Book.read("\n".join(lines))
        self.assertEqual(caught.exception.at, 5)
        self.assertFalse(issubclass(InvalidText, InvalidDeed))


if __name__ == "__main__":
    unittest.main()
