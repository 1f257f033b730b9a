import random
import unittest

from asneverbegun.books import Book, failing
from asneverbegun.calm import calm_paper
from asneverbegun.claims import claim_text
from asneverbegun.desk import Desk
from asneverbegun.errors import (
    InvalidBook, InvalidCommand, InvalidEvent, InvalidPlan, InvalidScene, InvalidSystem, InvalidText, InvalidWorld, NoLine,
    NoName, Refused,
)
from asneverbegun.events import HARMS
from asneverbegun.harms import harms, meets, story
from asneverbegun.knowledge import known
from asneverbegun.live import Live
from asneverbegun.stage import play
from asneverbegun.systems import System
from samples import BARE, KEYED, NEWER, made, random_system
from values import any_values

FIRST = ("story", "m", "again", (0, 0), 0, ("next", "write", "next", "over 0", "next"))


def line(thing):
    """A text as a command has it."""
    return str(thing).replace("\n", " ; ")


def desk_with(**systems):
    desk = Desk()
    for name, system in systems.items():
        desk.say("system %s %s" % (name, line(system)))
    return desk


class DeskCase(unittest.TestCase):
    def assert_raises(self, desk, command, error, **attributes):
        ahead = desk.book, desk.live, desk.live and (desk.live.events, len(desk.live))
        with self.assertRaises(error) as caught:
            desk.say(command)
        self.assertIs(type(caught.exception), error)
        for name, wanted in attributes.items():
            self.assertEqual(getattr(caught.exception, name), wanted, command)
        self.assertIs(desk.book, ahead[0])
        self.assertIs(desk.live, ahead[1])
        self.assertEqual(desk.live and (desk.live.events, len(desk.live)), ahead[2])

    def assert_invalid(self, desk, *commands):
        for command in commands:
            self.assert_raises(desk, command, InvalidCommand)


class DeskTest(DeskCase):
    def test_the_beginning(self):
        desk = Desk()
        self.assertEqual(desk.book, Book())
        self.assertIsNone(desk.live)
        self.assertEqual((desk.say("write"), desk.say(command="check")), ("empty", "all hold"))

    def test_no_commands(self):
        desk = desk_with(m=BARE)
        desk.say("live m 0,0 0")
        for value in any_values() + [["write"], ("write",), "", " ", "Write", "write ", " write", "write\n", "\nwrite", "write write",
                                     "writes", "harms  m", "harms m ", "do next\n", "do  next", "story m  again", "do", "do ",
                                     "system", "nothing", "none m"]:
            self.assert_invalid(desk, value)
        self.assertEqual(desk.say("write").split(" ; ")[0], "system m")

    def test_forms(self):
        desk = desk_with(m=BARE)
        desk.say("live m 0,0 0")
        for name in ("do", "key", "M", "abcde", "m1", "'m'", "-", "0"):
            self.assert_invalid(desk, "system %s %s" % (name, line(BARE)), "live %s 0,0 0" % name, "harms " + name, "known " + name,
                                "meets %s again" % name, "story %s again" % name)
        for harm in ("Again", "harm", "m", "0", '"again"'):
            self.assert_invalid(desk, "meets m " + harm, "story m " + harm)
        for number in ("00", "01", "-1", "+1", "12345", "x", "1.0", "0,0", "\u0661"):
            self.assert_invalid(desk, "live m 0,0 " + number, "drop " + number)
        for scene in ("0,,0", ",0", "0,", ",", "00,0", "0,x", "(0,0)", "0;0", "-1,0", "12345,0", "a"):
            self.assert_invalid(desk, "live m %s 0" % scene)
        for word in ("write", "undo", "scene", "log", "keep", "check"):
            self.assert_invalid(desk, word + " m", word + " 0")
        self.assert_invalid(desk, "system", "system m", "claim", "book", "live", "live m", "live m 0,0", "live m 0,0 0 0", "live m 0, 0 0",
                            "harms", "harms m m", "meets", "meets m", "meets m again again", "meets again m", "story", "story m",
                            "story m again again", "known", "known m m", "drop", "drop 0 0", "do")

    def test_not_iterable(self):
        with self.assertRaises(TypeError):
            iter(Desk())

    def test_without_a_live_stage(self):
        desk = desk_with(m=BARE)
        self.assert_invalid(desk, "do next", "do nothing", "undo", "scene", "log", "keep")
        desk.say("live m 0,0 0")
        self.assertEqual([desk.say(word) for word in ("do next", "scene", "log", "keep", "undo")], ["fine", "1 0", "empty", "0", "undone"])


class SystemTest(DeskCase):
    def test_system(self):
        desk = Desk()
        self.assertEqual(desk.say("system m " + line(BARE)), "1")
        self.assertEqual(desk.say("system k " + line(NEWER)), "2")
        self.assertEqual(desk.book, Book([("m", BARE), ("k", NEWER)]))
        self.assertEqual(desk.say("system z " + line(BARE)), "1")

    def test_errors(self):
        desk = desk_with(m=BARE)
        text = line(KEYED)
        self.assert_raises(desk, "system m x", InvalidText, at=0)
        self.assert_raises(desk, "system k " + text + " ; do book go", InvalidText, at=str(KEYED).count("\n") + 1)
        self.assert_raises(desk, "system m " + text.replace("deed rest", "deed pay"), InvalidWorld, word="deeds")
        self.assert_raises(desk, "system m " + text + " ; go 9", InvalidPlan, word="lines")
        self.assert_raises(desk, "system m " + text.replace("street -", "street nope"), InvalidSystem, word="street")
        self.assert_raises(desk, "system m " + text, InvalidBook, word="systems")
        self.assert_raises(desk, "system m " + line(BARE), InvalidBook, word="systems")
        self.assertEqual(desk.book, Book([("m", BARE)]))

    def test_signs_for_newlines(self):
        # They are replaced from left to right, and only with a space on both sides.
        desk = Desk()
        text = line(BARE)
        self.assert_raises(desk, "system m ; " + text, InvalidText, at=0)
        self.assert_raises(desk, "system m " + text + " ;", InvalidText, at=str(BARE).count("\n"))
        self.assert_raises(desk, "system m " + text.replace(" ; keys", " ; ; keys"), InvalidText, at=1)
        self.assert_raises(desk, "system m " + text.replace(" ; keys", "; keys"), InvalidText, at=0)
        self.assert_raises(desk, "system m " + text.replace(" ; keys", ";keys"), InvalidText, at=0)


class BookTest(DeskCase):
    def test_claim(self):
        desk = desk_with(m=BARE, k=KEYED)
        self.assertEqual(desk.say("claim " + claim_text(FIRST)), "holds")
        self.assertEqual(desk.say("claim " + claim_text(("story", "k") + FIRST[2:])), "fails")
        self.assertEqual(desk.say("claim " + claim_text(FIRST)), "holds")
        self.assertEqual(desk.book.claims, (FIRST, ("story", "k") + FIRST[2:], FIRST))
        paper = calm_paper(KEYED, "loose")
        self.assertEqual(desk.say("claim " + claim_text(("calm", "k", "loose", paper))), "holds")
        self.assertEqual(desk.say("claim " + claim_text(("calm", "k", "loose", paper[1:]))), "fails")

    def test_claim_errors(self):
        desk = desk_with(m=BARE)
        for text in ("story", "story m", "x", "story m again (0, 0) 0", "system m", claim_text(FIRST) + " ; ", ";"):
            if not text.endswith(" "):
                self.assert_raises(desk, "claim " + text, InvalidText, at=0)
        self.assert_raises(desk, "claim " + claim_text(("story", "k") + FIRST[2:]), InvalidBook, word="claims")
        # ` ; ` in a string is a newline, too, which no string of a claim has.
        self.assert_raises(desk, 'claim reads m ("a ; b")', InvalidText, at=0)
        self.assertEqual(desk.say('claim reads m ("a; b", "a ;b")'), "fails")

    def test_book_and_write(self):
        desk = desk_with(m=BARE)
        desk.say("live m 0,0 0")
        desk.say("do next")
        live = desk.live
        book = Book([("k", KEYED), ("m", BARE)], [FIRST, ("story", "k") + FIRST[2:], FIRST])
        self.assertEqual(desk.say("book " + line(book)), "1")
        self.assertEqual((desk.book, desk.say("write")), (book, line(book)))
        self.assertIs(desk.live, live)
        self.assertEqual(desk.say("log"), "empty")
        self.assertEqual(desk.say("book " + desk.say("write")), "1")
        self.assertEqual(desk.book, book)
        self.assertEqual(desk.say("book system s ; " + line(BARE)), "0")

    def test_book_errors(self):
        desk = desk_with(m=BARE)
        text = line(Book([("k", KEYED)], [("calm", "k", "loose", ())]))
        size = text.count(" ; ")
        self.assert_raises(desk, "book x", InvalidText, at=0)
        self.assert_raises(desk, "book empty", InvalidText, at=0)
        self.assert_raises(desk, "book " + text + " ; x", InvalidText, at=size + 1)
        self.assert_raises(desk, "book " + text.replace("start", "begin"), InvalidText, at=3)
        self.assert_raises(desk, "book " + text.replace("deed rest", "deed pay"), InvalidWorld, word="deeds")
        self.assert_raises(desk, "book " + text.replace("else 3", "else 9"), InvalidPlan, word="lines")
        self.assert_raises(desk, "book " + text.replace("street -", "street nope"), InvalidSystem, word="street")
        self.assert_raises(desk, "book " + text.replace("calm k", "calm x"), InvalidBook, word="claims")
        self.assert_raises(desk, "book " + line(Book([("k", KEYED)])) + " ; " + line(Book([("k", KEYED)])), InvalidBook, word="systems")
        self.assertEqual(desk.book, Book([("m", BARE)]))

    def test_check_and_drop(self):
        desk = desk_with(m=BARE, k=KEYED)
        self.assertEqual(desk.say("check"), "all hold")
        other = ("story", "k") + FIRST[2:]
        for claim in (other, FIRST, other):
            desk.say("claim " + claim_text(claim))
        self.assertEqual(desk.say("check"), "0 2")
        self.assertEqual(desk.say("drop 0"), "2")
        self.assertEqual((desk.say("check"), desk.book.claims), ("1", (FIRST, other)))
        self.assertEqual(desk.say("drop 1"), "1")
        self.assertEqual(desk.say("check"), "all hold")
        self.assert_raises(desk, "drop 1", NoLine, at=1)
        self.assert_raises(desk, "drop 9999", NoLine, at=9999)
        self.assertEqual(desk.say("drop 0"), "0")
        self.assert_raises(desk, "drop 0", NoLine, at=0)

    def test_the_books_are_the_very_ones(self):
        desk = desk_with(m=BARE)
        book = desk.book
        desk.say("check")
        self.assertIs(desk.book, book)
        desk.say("claim " + claim_text(FIRST))
        self.assertEqual((len(book), len(desk.book)), (0, 1))


class LiveTest(DeskCase):
    def test_live(self):
        desk = desk_with(m=BARE, k=NEWER)
        self.assertEqual(desk.say("live k 0,0 1"), "2")
        self.assertIsInstance(desk.live, Live)
        self.assertEqual((desk.live.system, desk.live.played.host), (NEWER, (1, 0, None)))
        first = desk.live
        self.assertEqual(desk.say("live m 0,0 0"), "1")
        self.assertIsNot(desk.live, first)
        self.assertEqual(desk.live.system, BARE)

    def test_live_errors(self):
        desk = desk_with(m=BARE, k=NEWER)
        self.assert_raises(desk, "live x 0,0 0", NoName, name="x")
        self.assert_raises(desk, "live x 9 9", NoName, name="x")
        self.assert_invalid(desk, "live m 0,0 1", "live k 0,0 2", "live m 9 1", "live k 0,0 9999")
        for scene in ("0", "0,1", "0,0,0", "9,9", "9999,0"):
            self.assert_raises(desk, "live m %s 0" % scene, InvalidScene)
        desk.say("live m 0,0 0")
        self.assert_raises(desk, "live m 0,1 0", InvalidScene)
        self.assert_raises(desk, "live x 0,0 0", NoName, name="x")

    def test_do(self):
        desk = desk_with(m=BARE)
        desk.say("live m 0,0 0")
        self.assertEqual([desk.say("do " + event) for event in FIRST[5]], ["fine"] * 4 + ["again"])
        self.assertEqual((desk.live.events, len(desk.live)), (FIRST[5], 5))
        self.assertEqual((desk.say("scene"), desk.say("log")), ("1 2", "book ok"))
        desk.say("do write")
        self.assertEqual(desk.say("log"), "book ok, pay ok")
        system = made("m 3", "pay: m by 1; want: needs m 0, m to 0", "do pay/back", street="want")
        desk = desk_with(m=system)
        desk.say("live m 0 0")
        self.assertEqual([desk.say("do " + event) for event in ("next", "write", "street want", "next", "next")][-1], "left noticed")

    def test_do_errors(self):
        desk = desk_with(m=BARE)
        desk.say("live m 0,0 0")
        self.assert_raises(desk, "do nothing", InvalidEvent, at=0)
        self.assert_raises(desk, "do write", Refused, at=0)
        desk.say("do next")
        self.assert_raises(desk, "do next next", InvalidEvent, at=1)
        self.assert_raises(desk, "do over 01", InvalidEvent, at=1)
        self.assert_raises(desk, "do street x ; y", InvalidEvent, at=1)
        self.assert_raises(desk, "do over 1", Refused, at=1)
        self.assert_raises(desk, "do street book", Refused, at=1)

    def test_undo(self):
        desk = desk_with(m=BARE)
        desk.say("live m 0,0 0")
        self.assertEqual(desk.say("undo"), "nothing")
        desk.say("do next")
        desk.live.several(["write", "next"])
        self.assertEqual((desk.say("scene"), desk.say("undo"), desk.say("scene")), ("1 1", "undone", "1 0"))
        self.assertEqual((desk.say("undo"), desk.say("undo"), desk.say("scene")), ("undone", "nothing", "0 0"))

    def test_the_live_stage_is_the_very_one(self):
        desk = desk_with(m=BARE)
        desk.say("live m 0,0 0")
        live = desk.live
        desk.say("do next")
        self.assertIs(desk.live, live)
        self.assertEqual(live.events, ("next",))
        live.do("write")
        self.assertEqual(desk.say("log"), "book ok")
        desk.say("system k " + line(KEYED))
        self.assertIs(desk.live, live)

    def test_keep(self):
        desk = desk_with(m=BARE)
        desk.say("live m 0,0 0")
        self.assertEqual(desk.say("keep"), "0")
        for event in FIRST[5][:-1]:
            desk.say("do " + event)
            self.assertEqual(desk.say("keep"), "0")
        desk.say("do " + FIRST[5][-1])
        self.assertEqual(desk.say("keep"), "1")
        self.assertEqual(desk.book.claims, (FIRST,))
        self.assertEqual(desk.say("keep"), "0")
        self.assertEqual((len(desk.book), desk.say("check")), (1, "all hold"))
        # Behind the first harms nothing is kept.
        desk.say("drop 0")
        desk.say("do write")
        self.assertEqual(desk.say("keep"), "0")
        desk.say("undo")
        self.assertEqual(desk.say("keep"), "1")

    def test_keep_two_harms(self):
        system = made("m 3", "pay: m by 1; want: needs m 0, m to 0", "do pay/back", street="want")
        desk = desk_with(m=system)
        desk.say("live m 0 0")
        events = ("next", "write", "street want", "next", "next")
        desk.live.several(events)
        desk.say("claim " + claim_text(("story", "m", "noticed", (0,), 0, events)))
        self.assertEqual(desk.say("keep"), "1")
        self.assertEqual([claim[2] for claim in desk.book.claims], ["noticed", "left"])
        desk.say("drop 0")
        desk.say("drop 0")
        self.assertEqual(desk.say("keep"), "2")
        self.assertEqual(sorted(claim[2] for claim in desk.book.claims), ["left", "noticed"])
        self.assertEqual(desk.say("check"), "all hold")

    def test_keep_behind_other_harms(self):
        system = made("m 3", "pay: m by 1; rest: m by 2", "do pay undo rest/back")
        desk = desk_with(m=system)
        desk.say("live m 0 0")
        desk.live.several(["next", "over 0", "next", "write", "next", "next", "write", "next"])
        self.assertEqual(desk.live.played.met, ((2, "again"), (7, "left")))
        self.assertEqual(desk.say("keep"), "0")

    def test_keep_with_another_start_and_edition(self):
        wide = System(NEWER.world, NEWER.editions, [(0, 0), (0, 2)], NEWER.street, NEWER.tags)
        desk = desk_with(n=wide)
        desk.say("live n 0,2 0")
        desk.live.several(["next", "write", "next", "write"])
        self.assertEqual(desk.say("do over 1"), "astray")
        desk.say("keep")
        self.assertEqual(desk.book.claims, (("story", "n", "astray", (0, 2), 0, ("next", "write", "next", "write", "over 1")),))
        desk = desk_with(n=made("m 3", "pay: m by 1", "end", "do pay"))
        desk.say("live n 0 1")
        desk.live.several(["next", "over 1"])
        self.assertEqual(desk.say("do next"), "again")
        desk.say("keep")
        self.assertEqual(desk.book.claims, (("story", "n", "again", (0,), 1, ("next", "over 1", "next")),))

    def test_keep_wants_its_system(self):
        desk = desk_with(m=BARE, k=KEYED)
        desk.say("live m 0,0 0")
        desk.live.several(FIRST[5])
        desk.say("book " + line(Book([("k", BARE)])))
        self.assert_raises(desk, "keep", NoName, name="m")
        desk.say("book " + line(Book([("m", KEYED)])))
        self.assert_raises(desk, "keep", NoName, name="m")
        # An equal one is not another one.
        desk.say("book " + line(Book([("k", KEYED), ("m", BARE)])))
        self.assertEqual(desk.say("keep"), "1")
        # It is NoName also if there is nothing to keep.
        desk.say("undo")
        desk.say("book " + line(Book([("m", KEYED)])))
        self.assert_raises(desk, "keep", NoName, name="m")


class AskingTest(DeskCase):
    def test_harms(self):
        desk = desk_with(m=BARE, k=KEYED, n=NEWER)
        self.assertEqual([desk.say("harms " + name) for name in "mkn"], ["again unlike", "none", "astray loose"])

    def test_meets(self):
        desk = desk_with(m=BARE, n=NEWER, s=made("m 3", "pay: m by 1", "do pay/back"))
        self.assertEqual(desk.say("meets m again"), "late lost")
        self.assertEqual(desk.say("meets m left"), "never")
        self.assertEqual(desk.say("meets n loose"), "late+newer lost+newer")
        self.assertEqual(desk.say("meets s left"), "nothing")

    def test_story(self):
        desk = desk_with(m=BARE)
        text = desk.say("story m again")
        start, edition, events = story(BARE, "again")
        self.assertEqual(text, ", ".join(events))
        self.assertEqual(desk.book.claims, (("story", "m", "again", start, edition, events),))
        self.assertEqual((desk.say("story m again"), len(desk.book)), (text, 1))
        self.assertEqual((desk.say("story m left"), len(desk.book)), ("never", 1))
        desk.say("story m unlike")
        self.assertEqual((len(desk.book), desk.say("check")), (2, "all hold"))

    def test_known(self):
        desk = desk_with(m=BARE, n=NEWER.with_tags([]).with_street(["free"]))
        self.assertEqual((desk.say("known n"), desk.say("known m")), ("nothing", "astray never, noticed never, stale never"))
        desk.say("story m again")
        self.assertEqual(desk.say("known m"), "again happens, astray never, noticed never, stale never")

    def test_no_names(self):
        desk = desk_with(m=BARE)
        for command in ("harms k", "meets k again", "story k left", "known k", "live k 0,0 0"):
            self.assert_raises(desk, command, NoName, name="k")

    def test_as_the_functions_answer(self):
        for seed in range(60):
            system = random_system(seed)
            desk = desk_with(q=system)
            self.assertEqual(desk.say("harms q"), " ".join(harms(system)) or "none")
            for harm in HARMS:
                lots = " ".join("+".join(lot) or "nothing" for lot in meets(system, harm)) or "never"
                self.assertEqual(desk.say("meets q " + harm), lots)
                row = story(system, harm)
                self.assertEqual(desk.say("story q " + harm), "never" if row is None else ", ".join(row[2]))
            self.assertEqual(len(desk.book), len(harms(system)))
            self.assertEqual(failing(desk.book), ())
            rows = ", ".join("%s %s" % row for row in known(desk.book, "q"))
            self.assertEqual(desk.say("known q"), rows or "nothing")
            self.assertEqual(Book.read(desk.say("write").replace(" ; ", "\n")), desk.book)

    def test_live_stages_as_play_shows(self):
        for seed in range(60):
            system = random_system(seed)
            desk, rng = desk_with(q=system), random.Random(seed)
            start, edition = rng.choice(system.starts), rng.randrange(len(system.editions))
            answer = desk.say("live q %s %d" % (",".join(str(value) for value in start), edition))
            self.assertEqual(answer, str(len(system.editions)))
            for _ in range(8):
                event = rng.choice(desk.live.can())
                told = desk.say("do " + event)
                played = play(system, start, edition, desk.live.events)
                harm = [word for at, word in played.met if at == len(desk.live.events) - 1]
                self.assertEqual(told, " ".join(harm) or "fine")
                self.assertEqual(desk.say("scene"), " ".join(str(value) for value in played.scene))
                self.assertEqual(desk.say("log"), ", ".join(played.log) or "empty")
                is_first = harm and all(at == len(desk.live.events) - 1 for at, _ in played.met)
                self.assertEqual(desk.say("keep"), str(len(harm)) if is_first else "0")
                if "stale" in harm:
                    break
            self.assertEqual(desk.say("check"), "all hold")


if __name__ == "__main__":
    unittest.main()
