import random
import unittest

from asneverbegun.claims import claim_text, is_claim, read_claim
from asneverbegun.errors import InvalidText
from asneverbegun.events import HARMS
from test_plainthings import random_thing
from values import any_values

EVENTS = ("next", "write", "over 0", "late 12", "street set")
PAPER = (((0, 1), (1, 1), "ok 1"), True, None, -7, "ok", ())
CLAIMS = [
    (("story", "m", "again", (0, 0), 0, ("next", "write")), 'story m again (0, 0) 0 ("next", "write")'),
    (("story", "abcd", "noticed", (), 12345, ()), "story abcd noticed () 12345 ()"),
    (("alike", "m", (2,), 1, ("next",), EVENTS),
     'alike m (2) 1 ("next") ("next", "write", "over 0", "late 12", "street set")'),
    (("clean", "m", 0, 3, PAPER), 'clean m 0 3 (((0, 1), (1, 1), "ok 1"), yes, none, -7, "ok", ())'),
    (("clean", "m", 1, 0, ()), "clean m 1 0 ()"),
    (("reads", "k", PAPER[:1]), 'reads k (((0, 1), (1, 1), "ok 1"))'),
    (("calm", "m", "astray", (False,)), "calm m astray (no)"),
]
STORY, ALIKE, CLEAN, READS, CALM = (CLAIMS[at][0] for at in (0, 2, 3, 5, 6))
# For each kind of thing, what can stand in its place, and what can't.
OTHERWISE = {
    "name": (["x"], ["do", "key", "", "abcde", "A", "m ", "m1", 1, None, ("m",)]),
    "harm": (HARMS, ["Again", "", "again ", 0, None, ("again",), "calm", "over"]),
    "calm": (("again", "unlike", "loose", "astray"), ["stale", "stuck", "left", "noticed", "", 1, None, ("again",)]),
    "start": ([(), (0,), (5, 10 ** 30), (1, 2, 3, 4, 5)],
              [[0, 0], (True, 0), (-1, 0), ("0",), ((0,),), None, 0, "0", (0, None), ([],)]),
    "number": ([0, 1, 99, 10 ** 30], [True, False, -1, None, "0", (0,), [], 1.0]),
    "events": ([(), ("next",), ("over 9999", "late 0", "street abcd", "write")],
               [["next"], "next", None, 0, ("Next",), ("next ",), ("over",), ("over 01",), ("over 10000",), ("over -1",), ("late",),
                ("street do",), ("street",), ("",), (0,), (None,), (("next",),), ("next", ["write"])]),
    "paper": ([(), (0,), (((((1,),),),),), ("no", False), PAPER],
              [[], "ok", 0, None, True, ('"',), ("\n",), ("\\",), ([],), (1.5,), ((1, ["a"]),), ({},)]),
}
PLACES = {
    "story": ("name", "harm", "start", "number", "events"),
    "alike": ("name", "start", "number", "events", "events"),
    "clean": ("name", "number", "number", "paper"),
    "reads": ("name", "paper"),
    "calm": ("name", "calm", "paper"),
}


class FormTest(unittest.TestCase):
    def test_the_five_forms(self):
        for claim, _ in CLAIMS:
            self.assertIs(is_claim(claim), True, claim)

    def test_each_thing_otherwise(self):
        for claim in (STORY, ALIKE, CLEAN, READS, CALM):
            for at, kind in enumerate(PLACES[claim[0]], 1):
                good, bad = OTHERWISE[kind]
                for value in good:
                    self.assertIs(is_claim(claim[:at] + (value,) + claim[at + 1:]), True, (claim[0], at, value))
                for value in bad:
                    self.assertIs(is_claim(claim[:at] + (value,) + claim[at + 1:]), False, (claim[0], at, value))

    def test_each_thing_left_out_or_twice(self):
        for claim in (STORY, ALIKE, CLEAN, READS, CALM):
            for at in range(len(claim)):
                self.assertIs(is_claim(claim[:at] + claim[at + 1:]), False)
                self.assertIs(is_claim(claim[:at + 1] + claim[at:]), False)
            self.assertIs(is_claim(claim + ((),)), False)
            self.assertIs(is_claim(list(claim)), False)
            for word in ("Story", "tale", "", 0, None, ("story",), [], "system"):
                self.assertIs(is_claim((word,) + claim[1:]), False)

    def test_words_that_are_of_other_forms(self):
        words = [claim[0] for claim in (STORY, ALIKE, CLEAN, READS, CALM)]
        for claim in (STORY, ALIKE, CLEAN, READS, CALM):
            for word in words:
                self.assertIs(is_claim((word,) + claim[1:]), word == claim[0])

    def test_any_values(self):
        for value in any_values():
            self.assertIs(is_claim(value), False)
            for claim in (STORY, ALIKE, CLEAN, READS, CALM):
                for at in range(len(claim)):
                    found = is_claim(claim[:at] + (value,) + claim[at + 1:])
                    self.assertIsInstance(found, bool)
                    if not isinstance(value, (int, str, tuple)):
                        self.assertFalse(found)

    def test_bools_are_no_numbers(self):
        for claim in (STORY[:4] + (False,) + STORY[5:], STORY[:3] + ((False, 0),) + STORY[4:], CLEAN[:2] + (True,) + CLEAN[3:]):
            self.assertIs(is_claim(claim), False)


class TextTest(unittest.TestCase):
    def assert_wrong(self, value):
        with self.assertRaises(InvalidText) as caught:
            read_claim(value)
        self.assertEqual(caught.exception.at, 0)

    def test_texts(self):
        for claim, text in CLAIMS:
            self.assertEqual(claim_text(claim), text)
            self.assertEqual(repr(read_claim(text)), repr(claim))

    def test_random_claims(self):
        for seed in range(400):
            rng = random.Random(seed)
            paper = tuple(random_thing(rng, 3) for _ in range(rng.randrange(5)))
            start = tuple(rng.randrange(5) for _ in range(rng.randrange(4)))
            events = tuple(rng.choice(EVENTS) for _ in range(rng.randrange(6)))
            for claim in (("story", "m", rng.choice(HARMS), start, rng.randrange(20), events), ("reads", "ab", paper),
                          ("alike", "m", start, rng.randrange(20), events, events[::-1]), ("clean", "q", 0, 11, paper),
                          ("calm", "m", "loose", paper)):
                self.assertTrue(is_claim(claim))
                self.assertEqual(repr(read_claim(claim_text(claim))), repr(claim))

    def test_texts_with_one_sign_otherwise(self):
        for claim, text in CLAIMS:
            for at in range(len(text) + 1):
                others = [text[:at] + text[at + 1:]] + [text[:at] + sign + text[at + 1:] for sign in ' (),"1a\n']
                others += [text[:at] + sign + text[at:] for sign in ' (),"1a\n']
                for other in others:
                    try:
                        found = read_claim(other)
                    except InvalidText as error:
                        self.assertEqual(error.at, 0)
                        continue
                    self.assertTrue(is_claim(found))
                    self.assertEqual(claim_text(found), other)

    def test_wrong_texts(self):
        for text in (
            "", " ", "story", "story m", "story m again", "story m again (0)", "story m again (0) 0", "story m again (0) 0 ",
            'story m again (0) 0 ("next") ', ' story m again (0) 0 ("next")', 'story  m again (0) 0 ("next")',
            'story m again (0)  0 ("next")', 'story m again (0) 0 ("next") 1', 'story m "again" (0) 0 ("next")',
            'story m again (0) 00 ("next")', 'story m again (0) -1 ("next")', 'story m again (yes) 0 ("next")',
            'story m again (-1) 0 ("next")', 'story m again (0) 0 "next"', 'story m again (0) 0 ("Next")',
            'story do again (0) 0 ("next")', 'story m stone (0) 0 ("next")', 'story m again(0) 0 ("next")',
            'story m again (0) 0 ("next")\n', 'story m again (0) 0 ("over 01")', 'Story m again (0) 0 ("next")',
            "alike m (0) 0 ()", "alike m again (0) 0 () ()", "clean m 0 ()", "clean m 0 0 1", "clean m 0 yes ()", "reads m", "reads m 0",
            "reads m () ()", "calm m stale ()", "calm m () again", "calm m again", "calm again ()", "system m", "calm m again (", "reads m )",
        ):
            self.assert_wrong(text)

    def test_any_values(self):
        for value in any_values() + [claim for claim, _ in CLAIMS] + [[CLAIMS[0][1]]]:
            self.assert_wrong(value)

    def test_long_numbers_and_deep_papers(self):
        paper = 10 ** 4000
        for _ in range(12):
            paper = (paper,)
        claim = ("calm", "m", "loose", paper)
        self.assertEqual(read_claim(claim_text(claim)), claim)
        self.assert_wrong("calm m again " + "(" * 1900)

    def test_by_parameter_names(self):
        claim, text = CLAIMS[0]
        self.assertEqual((is_claim(value=claim), claim_text(claim=claim), read_claim(text=text)), (True, text, claim))


if __name__ == "__main__":
    unittest.main()
