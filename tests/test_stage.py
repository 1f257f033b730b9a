import random
import unittest

from asneverbegun.errors import InvalidEvent, Refused
from asneverbegun.events import HARMS
from asneverbegun.stage import Played, play
from naive import Naive
from samples import BARE, KEYED, OTHER, PAY, SET, made, random_system
from values import any_values


def met(system, events, edition=0, start=None):
    """The harms that the events meet."""
    return play(system, system.starts[0] if start is None else start, edition, events).met


class PlayTest(unittest.TestCase):
    def test_the_example(self):
        some = ["next", "write", "next", "over 0", "next", "write"]
        seen = play(BARE, (0, 0), 0, some)
        self.assertEqual((seen.scene, seen.log, seen.host, seen.met),
                         ((1, 2), ("book ok", "pay ok"), (0, 2, None), ((4, "again"),)))
        self.assertEqual(play(KEYED, (0, 0), 0, some).scene, (1, 1))
        self.assertEqual(play(BARE, (0, 0), 0, ["over 0", "next", "write", "late 0"]).met, ())

    def test_the_beginning(self):
        seen = play(BARE, (0, 0), 0, ())
        self.assertIsInstance(seen, Played)
        self.assertEqual((seen.scene, seen.shade, seen.log, seen.cuts, seen.host, seen.pending, seen.met),
                         ((0, 0), (0, 0), (), 0, (0, 0, None), (), ()))

    def test_by_parameter_names(self):
        seen = play(events=("next",), edition=0, start=(0, 0), system=BARE)
        self.assertEqual((seen.host, seen.scene), ((0, 0, "ok"), (1, 0)))

    def test_one_host_to_the_end(self):
        seen = play(BARE, (0, 0), 0, ["next", "write", "next", "write", "next"])
        self.assertEqual((seen.scene, seen.shade, seen.log, seen.host, seen.met),
                         ((1, 1), (0, 0), ("book ok", "pay ok", "end"), (0, -1, None), ()))

    def test_taking_back(self):
        plan = made("a 2, m 3", "book: a to 1; free: a to 0; pay: m by 1, tells m; rest: m back",
                      "do book undo free/do pay undo rest/back", starts=["0 2"])
        events = ["next", "write", "next", "write"]
        seen = play(plan, (0, 2), 0, events)
        self.assertEqual((seen.log, seen.host, seen.scene), (("book ok", "pay ok 2"), (0, 2, None), (1, 0)))
        events += ["next", "next"]
        seen = play(plan, (0, 2), 0, events)
        self.assertEqual((seen.log[-1], seen.host, seen.scene), ("back", (0, 2, "ok"), (1, 2)))
        events += ["write", "next", "write", "next"]
        seen = play(plan, (0, 2), 0, events)
        self.assertEqual((seen.log[2:], seen.host, seen.scene, seen.met),
                         (("back", "undo rest ok", "undo free ok", "gone"), (0, -1, None), (0, 2), ()))

    def test_sure_and_cut(self):
        plan = made("m 3", "pay: m by 1", "do pay/sure/do pay/cut k/go 0", street="pay")
        seen = play(plan, (0,), 0, ["next", "write"])
        self.assertEqual((seen.shade, seen.scene), ((0,), (1,)))
        seen = play(plan, (0,), 0, ["next", "write", "next"])
        self.assertEqual((seen.shade, seen.log, seen.cuts), ((1,), ("pay ok", "sure"), 0))
        seen = play(plan, (0,), 0, ["next", "write", "next", "street pay", "next", "write"])
        self.assertEqual((seen.shade, seen.scene), ((2,), (0,)))
        seen = play(plan, (0,), 0, ["next", "write", "next", "next", "write", "next"])
        self.assertEqual((seen.shade, seen.log, seen.cuts, seen.host), ((2,), ("cut k",), 1, (0, 0, None)))
        seen = play(plan, (0,), 0, ["next", "write", "next"] * 4)
        self.assertEqual((seen.log, seen.cuts), (("cut k",), 2))

    def test_behind_the_last_line(self):
        seen = play(PAY, (0,), 0, ["next", "write"])
        self.assertEqual(seen.host, (0, 1, None))
        seen = play(PAY, (0,), 0, ["next", "write", "next"])
        self.assertEqual((seen.host, seen.log), ((0, -1, None), ("pay ok", "end")))

    def test_go_is_gone_by_itself(self):
        plan = made("m 3", "pay: m by 1", "go 2/end/do pay/go 1")
        self.assertEqual(play(plan, (0,), 0, []).host, (0, 2, None))
        self.assertEqual(play(plan, (0,), 0, ["next", "write"]).host, (0, 1, None))

    def test_open_entries(self):
        plan = made("m 3", "pay: m by 1; rest: m by 2", "do pay undo rest ahead/back")
        seen = play(plan, (0,), 0, ["next"])
        self.assertEqual((seen.log, seen.scene, seen.host), (("pay ?",), (0,), (0, 0, None)))
        seen = play(plan, (0,), 0, ["next", "next"])
        self.assertEqual((seen.log, seen.scene, seen.host), (("pay ?",), (1,), (0, 0, "ok")))
        seen = play(plan, (0,), 0, ["next", "next", "write", "next", "next"])
        self.assertEqual(seen.log, ("pay ok", "back", "undo rest ?"))
        seen = play(plan, (0,), 0, ["next", "next", "write", "next", "next", "over 0", "next", "write", "next"])
        self.assertEqual((seen.log, seen.met, seen.pending), (("pay ok", "back", "undo rest ok", "gone"), (),
                                                               (("undo rest", 2, False),)))

    def test_pending_deeds(self):
        seen = play(BARE, (0, 0), 0, ["over 0", "over 0", "next", "write", "over 0", "late 1"])
        self.assertEqual(seen.pending, (("book", 0, False), ("book", 0, True), ("pay", 1, False)))
        back = ["next", "write", "next", "write", "next"]
        self.assertEqual(play(BARE, (0, 0), 0, back + ["over 0"]).pending, ())
        self.assertEqual(play(BARE, (0, 0), 0, ["next", "over 0"]).pending, ())

    def test_no_pending_deed_when_only_the_open_entry_is_next(self):
        plan = made("m 3", "pay: m by 1", "do pay ahead")
        self.assertEqual(play(plan, (0,), 0, ["over 0"]).pending, ())
        self.assertEqual(play(plan, (0,), 0, ["next", "over 0"]).pending, (("pay", 0, False),))

    def test_pending_opposites_tell_their_place(self):
        plan = made("m 3", "pay: m by 1", "do pay undo pay/cut k/do pay undo pay/back")
        seen = play(plan, (0,), 0, ["next", "write", "next", "next", "write", "next", "over 0"])
        self.assertEqual((seen.pending, seen.cuts, seen.log), ((("undo pay", 3, False),), 1, ("cut k", "pay ok", "back")))

    def test_an_elder_host_gives_back_what_its_log_told(self):
        plan = made("m 3", "pay: m by 1, tells m; rest: m back", "do pay undo rest/back", street="pay")
        events = ["next", "write", "next", "over 0", "street pay", "late 0"]
        seen = play(plan, (0,), 0, events)
        self.assertEqual((seen.scene, seen.pending), ((0,), (("undo rest", 2, True),)))

    def test_claims_refuse_pending_deeds(self):
        plan = made("m 3", "pay: m by 1", "do pay claim")
        seen = play(plan, (0,), 0, ["over 0", "late 0"])
        self.assertEqual((seen.scene, seen.pending), ((0,), (("pay", 0, True),)))
        self.assertEqual(play(plan, (0,), 0, ["next"]).scene, (1,))
        with self.assertRaises(Refused):
            play(plan, (0,), 0, ["over 0", "late 0", "late 0"])

    def test_gears_are_those_of_the_edition_of_the_host_that_asks(self):
        plan = made("m 3", "pay: m by 1", "do pay claim", "do pay")
        self.assertEqual(met(plan, ["over 1", "next", "late 0"]), ())
        self.assertEqual(met(plan, ["over 1", "over 1", "next", "late 1"]), ((3, "again"),))
        plan = made("m 3", "pay: m by 1", "do pay key", "do pay")
        self.assertEqual(met(plan, ["next", "over 1", "next"]), ((2, "again"),))
        self.assertEqual(met(plan, ["next", "over 0", "next", "write"]), ())
        self.assertEqual(met(plan, ["over 1", "next", "late 0"]), ((2, "again"),))

    def test_keys_are_remembered_for_ever(self):
        plan = made("m 3", "pay: m by 1", "do pay key/do pay key")
        events = ["over 0", "next", "over 0", "next", "write", "next", "late 0", "write", "next", "late 1"]
        with self.assertRaises(Refused) as caught:
            play(plan, (0,), 0, events)
        self.assertEqual(caught.exception.at, 9)
        seen = play(plan, (0,), 0, events[:9])
        self.assertEqual((seen.scene, seen.met, seen.log), ((2,), (), ("pay ok", "pay ok", "end")))

    def test_no_is_remembered_too(self):
        plan = made("a 2", "set: needs a 0, a to 1; clr: a to 0", "do set key", street="clr", starts=["1"])
        seen = play(plan, (1,), 0, ["next", "over 0", "street clr", "next", "write"])
        self.assertEqual((seen.log, seen.scene, seen.met), (("set no",), (0,), ()))

    def test_what_a_late_deed_did_is_remembered(self):
        plan = made("m 3", "pay: m by 1", "do pay key")
        seen = play(plan, (0,), 0, ["over 0", "late 0", "next", "write"])
        self.assertEqual((seen.log, seen.scene, seen.met), (("pay ok",), (1,), ()))

    def test_keys_with_and_without_the_cut(self):
        lines = "do pay key/cut k/go 0"
        first = ["next", "write", "next", "next", "write", "next"]
        whole = made("m 3", "pay: m by 1", lines)
        self.assertEqual(play(whole, (0,), 0, first + ["next"]).scene, (0,))
        short = made("m 3", "pay: m by 1", lines, keys="word")
        seen = play(short, (0,), 0, first + ["next"])
        self.assertEqual((seen.scene, seen.met, seen.host), ((2,), ((6, "stale"),), (0, 0, "ok")))
        self.assertEqual(met(short, first), ())

    def test_keys_with_and_without_the_word(self):
        events = ["next", "over 1", "next"]
        self.assertEqual(met(made("a 2", OTHER, "do none key", "do put key"), events), ())
        short = made("a 2", OTHER, "do none key", "do put key", keys="cut")
        seen = play(short, (0,), 0, events)
        self.assertEqual((seen.met, seen.scene), (((2, "stale"),), (0,)))

    def test_late_deeds_that_are_answered_from_memory_are_never_stale(self):
        short = made("a 2", OTHER, "do put key", "do none key", keys="cut")
        seen = play(short, (0,), 0, ["over 1", "next", "late 0", "write"])
        self.assertEqual((seen.met, seen.scene, seen.log), ((), (0,), ("none ok",)))
        ring = made("m 3", "pay: m by 1", "do pay key/cut k/go 0", keys="word")
        events = ["next", "write", "next", "over 0", "next", "write", "next", "late 0"]
        self.assertEqual(met(ring, events), ())
        self.assertEqual(play(ring, (0,), 0, events).scene, (2,))

    def test_opposites_that_get_other_values_back_are_other_words(self):
        # Both editions read the log, but take back another one of its deeds first.
        deeds = "a: x to 1, tells x; b: x to 2, tells x; o: x back"
        plan = made("x 3", deeds, "do a undo o key/do b undo o key/back", "do a undo o key/do b/back")
        log = ["next", "write", "next", "write", "next"]
        seen = play(plan, (0,), 0, log + ["next"])
        self.assertEqual((seen.scene, seen.log), ((1,), ("a ok 0", "b ok 1", "back")))
        seen = play(plan, (0,), 0, log + ["next", "over 1", "next"])
        self.assertEqual((seen.scene, seen.met), ((0,), ((7, "again"),)))
        short = plan.with_tags(["cut"])
        self.assertEqual(play(short, (0,), 0, log + ["next", "over 1", "next"]).met, ((7, "stale"),))


class ImpossibleTest(unittest.TestCase):
    def refused(self, system, events, edition=0):
        with self.assertRaises(Refused) as caught:
            play(system, system.starts[0], edition, events)
        return caught.exception.at

    def test_each_kind(self):
        two = made("m 3", "pay: m by 1; none: nothing", "do pay/do pay", "do pay/do none")
        self.assertEqual(self.refused(two, ["write"]), 0)
        self.assertEqual(self.refused(two, ["next", "write", "write"]), 2)
        self.assertEqual(self.refused(two, ["next", "next"]), 1)
        self.assertEqual(self.refused(two, ["street pay"]), 0)
        self.assertEqual(self.refused(two, ["street zzzz"]), 0)
        self.assertEqual(self.refused(two, ["over 2"]), 0)
        self.assertEqual(self.refused(two, ["over 1", "over 0"]), 1)
        self.assertEqual(self.refused(two, ["over 0"], 1), 0)
        self.assertEqual(self.refused(two, ["late 0"]), 0)
        self.assertEqual(self.refused(two, ["over 0", "late 1"]), 1)
        self.assertEqual(self.refused(two, ["over 0", "late 0", "late 0"]), 2)
        self.assertEqual(self.refused(PAY, ["next", "write", "next", "next"]), 3)
        self.assertEqual(self.refused(PAY, ["next", "write", "next", "write"]), 3)

    def test_astray_hosts_can_do_nothing_but_be_followed(self):
        two = made("m 3", "pay: m by 1; none: nothing", "do pay", "do none")
        events = ["next", "write", "over 1"]
        seen = play(two, (0,), 0, events)
        self.assertEqual((seen.host, seen.met), ((1, None, None), ((2, "astray"),)))
        self.assertEqual(self.refused(two, events + ["next"]), 3)
        self.assertEqual(self.refused(two, events + ["write"]), 3)
        self.assertEqual(self.refused(two, events + ["over 0"]), 3)
        seen = play(two, (0,), 0, events + ["over 1"])
        self.assertEqual((seen.met, seen.pending), (((2, "astray"), (3, "astray")), ()))

    def test_hosts_whose_work_is_over_can_be_followed(self):
        seen = play(PAY, (0,), 0, ["next", "write", "next", "over 0"])
        self.assertEqual((seen.host, seen.met, seen.pending), ((0, -1, None), (), ()))

    def test_forms_come_first(self):
        with self.assertRaises(InvalidEvent) as caught:
            play(PAY, (0,), 0, ["write", "next", "over", 5])
        self.assertEqual(caught.exception.at, 2)

    def test_what_is_no_event(self):
        bad = ["", "next ", " next", "Next", "nexts", "next 0", "write 0", "over", "over ", "over 00", "over 01", "over -1",
               "over x", "over 10000", "over  0", "over 0 0", "late", "late 1.", "late \u00b2", "late 10000", "street",
               "street key", "street abcde", "street 5", "street A", "street pay ", "street pay pay", "ask", "next\n"]
        for event in bad + any_values():
            for before in ([], ["next"]):
                with self.assertRaises(InvalidEvent, msg=repr(event)) as caught:
                    play(PAY, (0,), 0, before + [event])
                self.assertEqual(caught.exception.at, len(before))
        for event in ["over 9999", "late 9999", "late 0", "street zzzz", "street pay", "write"]:
            self.assertEqual(self.refused(PAY, [event]), 0)

    def test_what_is_no_sequence(self):
        for events in any_values() + ["next", {"next": 1}]:
            if not isinstance(events, (list, tuple)):
                with self.assertRaises(InvalidEvent) as caught:
                    play(PAY, (0,), 0, events)
                self.assertEqual(caught.exception.at, 0)

    def test_arguments_do_not_change(self):
        events = ["next", "write"]
        play(PAY, (0,), 0, events)
        self.assertEqual(events, ["next", "write"])


class HarmsTest(unittest.TestCase):
    def test_again(self):
        self.assertEqual(met(PAY, ["next", "over 0", "next"]), ((2, "again"),))
        self.assertEqual(met(PAY, ["over 0", "next", "late 0"]), ((2, "again"),))
        self.assertEqual(met(PAY, ["over 0", "late 0", "next"]), ((2, "again"),))
        self.assertEqual(met(PAY, ["over 0", "next", "write", "late 0"]), ((3, "again"),))
        self.assertEqual(met(PAY, ["over 0", "next", "write", "next", "late 0"]), ((4, "again"),))
        self.assertEqual(met(PAY, ["over 0", "over 0", "late 1", "late 0"]), ((3, "again"),))

    def test_again_needs_two_changes(self):
        plan = made("a 2", "put: a to 1; clr: a to 0", "do put", street="clr")
        self.assertEqual(met(plan, ["next", "over 0", "next", "write"]), ())
        self.assertEqual(met(plan, ["next", "over 0", "street clr", "next"]), ((3, "again"),))

    def test_unlike_by_another_answer(self):
        self.assertEqual(met(SET, ["next", "over 0", "next", "write"]), ((3, "unlike"),))
        self.assertEqual(met(SET, ["over 0", "late 0", "next", "write"]), ((3, "unlike"),))
        self.assertEqual(met(SET, ["over 0", "next", "late 0", "write"]), ())
        self.assertEqual(met(SET, ["next", "over 0", "street clr", "next"]), ((3, "again"),))
        self.assertEqual(met(SET, ["over 0", "next", "street clr", "late 0"]), ((3, "again"),))
        self.assertEqual(met(SET, ["over 0", "next", "street clr", "late 0"], 0, (1,)), ())
        self.assertEqual(met(SET, ["over 0", "next", "street clr", "late 0", "write"], 0, (1,)), ((4, "unlike"),))

    def test_unlike_by_a_late_deed_behind_an_entry(self):
        self.assertEqual(met(SET, ["over 0", "next", "write", "street clr", "late 0"], 0, (1,)), ((4, "unlike"),))
        self.assertEqual(met(SET, ["over 0", "next", "write", "late 0"], 0, (1,)), ())

    def test_unlike_by_another_word(self):
        plan = made("a 2", OTHER, "do put", "do none")
        self.assertEqual(met(plan, ["next", "over 1", "next", "write"]), ((3, "unlike"),))
        self.assertEqual(met(plan, ["over 1", "next", "late 0", "write"]), ((3, "unlike"),))
        self.assertEqual(met(plan, ["over 1", "next", "write", "late 0"]), ((3, "unlike"),))

    def test_unlike_by_open_entries(self):
        plan = made("a 2", OTHER, "do put", "do none ahead")
        self.assertEqual(met(plan, ["over 1", "next", "late 0"]), ((2, "unlike"),))
        self.assertEqual(met(plan, ["over 1", "late 0", "next"]), ((2, "unlike"),))
        self.assertEqual(met(plan, ["next", "over 1", "next"]), ((2, "unlike"),))
        same = made("a 2", OTHER, "do put", "do put ahead")
        self.assertEqual(met(same, ["over 1", "late 0", "next", "next", "write"]), ())
        self.assertEqual(met(same, ["over 1", "next", "late 0", "next", "write"]), ())

    def test_unlike_by_the_word_of_the_host_that_has_taken_over_the_open_entry(self):
        # The open entry was written for x 1, but the newer host asks for x 0.
        deeds = "a: x to 1, tells x; b: x to 2, tells x; o: x back"
        plan = made("x 3", deeds, "do a undo o/do b undo o ahead/back", "do a undo o ahead/do b/back")
        log = ["next", "write", "next", "next", "write", "next", "next"]
        self.assertEqual(play(plan, (0,), 0, log).log, ("a ok 0", "b ok 1", "back", "undo o ?"))
        self.assertEqual(met(plan, log + ["over 1", "late 0"]), ((8, "unlike"),))
        self.assertEqual(met(plan, log + ["over 0", "late 0"]), ())
        self.assertEqual(met(plan, log + ["over 0", "late 0", "over 1"]), ())

    def test_an_astray_host_asks_no_word(self):
        plan = made("a 2", OTHER, "do put ahead", "do none ahead")
        events = ["next", "over 0", "over 1", "late 0"]
        self.assertEqual(met(plan, events), ((2, "astray"),))

    def test_open_entries_that_another_edition_does_not_read(self):
        for line, harms in (("do put ahead", ()), ("do put", ((1, "astray"),)), ("do none ahead", ((1, "astray"),))):
            plan = made("a 2", OTHER, "do put ahead", line)
            self.assertEqual(met(plan, ["next", "over 1"]), harms, line)

    def test_loose(self):
        for line in ("sure", "cut k", "back", "end"):
            plan = made("a 2", OTHER, "do put", line)
            self.assertEqual(met(plan, ["over 1", "late 0", "next"]), ((2, "loose"),), line)
            self.assertEqual(met(plan, ["over 1", "next", "late 0"]), ((2, "loose"),), line)
            self.assertEqual(met(plan, ["next", "over 1", "next"]), ((2, "loose"),), line)
        plan = made("a 2", OTHER, "do put undo clr/back", "do put/back")
        log = ["next", "write", "next", "over 1"]
        self.assertEqual(met(plan, log + ["late 0", "next"]), ((5, "loose"),))
        self.assertEqual(met(plan, log + ["next", "late 0"]), ((4, "left"), (5, "loose")))

    def test_places_of_other_logs_are_other_places(self):
        plan = made("m 4", "pay: m by 1", "cut k/do pay/cut l/do pay")
        events = ["next", "over 0", "next", "write", "next", "next", "write"]
        self.assertEqual(met(plan, events), ())
        self.assertEqual(met(plan, events + ["late 0"]), ((7, "again"),))
        seen = play(plan, (0,), 0, events + ["late 0"])
        self.assertEqual((seen.log, seen.pending), (("cut l", "pay ok"), (("pay", 1, True),)))

    def test_stale_by_another_log_is_of_the_present_host(self):
        ring = made("m 4", "pay: m by 1", "do pay key/cut k/go 0", keys="word")
        # The first log has its deed at the place 0, all others at the place 1.
        self.assertEqual(met(ring, ["next", "write", "next", "next", "write", "next", "next"]), ((6, "stale"),))

    def test_stuck(self):
        plan = made("a 2", "put: a to 1; clr: needs a 0", "do put undo clr/back")
        self.assertEqual(met(plan, ["next", "write", "next", "next", "write"]), ((4, "stuck"),))
        self.assertEqual(met(plan, ["next", "write", "next", "next", "write", "next"]), ((4, "stuck"), (5, "left")))

    def test_left(self):
        plan = made("a 2", "put: a to 1", "do put/back")
        self.assertEqual(met(plan, ["next", "write", "next", "next"]), ((3, "left"),))
        plan = made("a 2", "put: a to 1", "do put/sure/back")
        self.assertEqual(met(plan, ["next", "write", "next", "next", "next"]), ())
        plan = made("a 2", "put: a to 1", "do put/cut k/back")
        self.assertEqual(met(plan, ["next", "write", "next", "next", "next"]), ())

    def test_the_street_goes_through_the_shade(self):
        plan = made("a 2, b 2", "put: a to 1; clr: a to 0; both: b by 1", "do put undo clr/back", street="both clr")
        log = ["next", "write", "street both", "next", "next", "write", "street both", "street both", "next"]
        seen = play(plan, (0, 0), 0, log)
        self.assertEqual((seen.met, seen.scene, seen.shade), ((), (0, 1), (0, 1)))
        plan = made("a 2, b 2", "put: a to 1; copy: needs a 1, b to 1; clr: a to 0", "do put undo clr/back", street="copy")
        log = ["next", "write", "street copy", "next", "next", "write", "next"]
        seen = play(plan, (0, 0), 0, log)
        self.assertEqual((seen.met, seen.shade), (((6, "left"), (6, "noticed")), (0, 0)))

    def test_noticed(self):
        deeds = "put: a to 1; clr: a to 0; look: tells a"
        plan = made("a 2", deeds, "do put undo clr/back", street="look")
        log = ["next", "street look", "write", "next", "next", "write"]
        self.assertEqual(met(plan, log + ["next"]), ((6, "noticed"),))
        self.assertEqual(met(plan, ["next", "write", "next", "next", "street look", "write", "next"]), ())
        for line in ("sure", "cut k"):
            plan = made("a 2", deeds, "do put undo clr/" + line + "/do put undo clr/back", street="look")
            self.assertEqual(met(plan, log[:3] + ["next"] * 2 + ["write", "next", "next"]), (), line)

    def test_several_harms_by_one_event(self):
        plan = made("m 4", "pay: m by 1; look: tells m", "do pay undo pay/back", "do pay/back", street="look")
        log = ["next", "write", "next", "street look", "over 1", "late 0", "next"]
        self.assertEqual(met(plan, log), ((6, "left"), (6, "loose"), (6, "noticed")))
        plan = made("a 3", "put: a to 1; clr: needs a 1, a to 2", "do put undo clr/back")
        self.assertEqual(met(plan, ["next", "write", "next", "next", "over 0", "next", "write"]),
                         ((6, "stuck"), (6, "unlike")))

    def test_met_is_ascending(self):
        plan = made("m 4", "pay: m by 1", "do pay/back")
        seen = met(plan, ["over 0", "over 0", "next", "late 1", "late 0", "write", "next", "next"])
        self.assertEqual(seen, ((3, "again"), (4, "again"), (7, "left")))

    def test_what_is_met_behind_other_harms_is_told_too(self):
        seen = met(PAY, ["over 0", "over 0", "over 0", "late 0", "late 1", "late 2", "next"])
        self.assertEqual(seen, ((4, "again"), (5, "again"), (6, "again")))


class NaiveTest(unittest.TestCase):
    """The stage against a second one, by random histories."""

    def test_random_histories(self):
        found = set()
        for seed in range(3000):
            found |= self.check(random_system(seed), random.Random(seed))
        self.assertEqual(found, set(HARMS))

    def check(self, system, rng):
        naive = Naive(system)
        start, edition = rng.choice(system.starts), rng.randrange(len(system.editions))
        state, events, rows = naive.begin(start, edition), [], []
        for _ in range(rng.choice([5, 15, 30])):
            can = [event for event, _ in naive.can(state)]
            if not can:
                break
            event = rng.choice([row for row in can if row in ("next", "write")] * 3 + can)
            state, harms = naive.do(state, event)
            rows += [(len(events), harm) for harm in sorted(harms)]
            events.append(event)
            if "stale" in harms:
                break
        seen = play(system, start, edition, events)
        self.assertEqual(seen.met, tuple(rows), (str(system), events))
        self.assertEqual((seen.scene, seen.shade, seen.log, seen.cuts),
                         (state.scene, state.shade, state.log, state.cuts), (str(system), events))
        self.assertEqual((seen.host[0], seen.host[2], seen.host[1] is None), (state.edition, state.held, state.astray))
        self.assertEqual(seen.host[1] == -1, not state.astray and naive.present(state) is None)
        self.assertEqual(seen.pending, tuple((row[0], row[3][1], row[4]) for row in state.pending))
        impossible = {"write", "next", "over 0", "over 1", "late 0", "late 1", "street d"} - {row for row, _ in naive.can(state)}
        for event in sorted(impossible):
            with self.assertRaises(Refused) as caught:
                play(system, start, edition, events + [event])
            self.assertEqual(caught.exception.at, len(events))
        return {harm for _, harm in rows}


if __name__ == "__main__":
    unittest.main()
