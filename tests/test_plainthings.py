import random
import unittest

from asneverbegun.errors import InvalidText
from asneverbegun.plainthings import is_plain, plain_text, read_plain
from values import OBJECTS, any_values

SINGLE = [
    (0, "0"), (7, "7"), (-1, "-1"), (12345, "12345"), (-10 ** 20, "-100000000000000000000"), (True, "yes"), (False, "no"),
    (None, "none"),
]
THINGS = [
    ("", '""'), ("next", '"next"'), ("over 0", '"over 0"'), ("yes", '"yes"'), ("12", '"12"'), ("(1, 2)", '"(1, 2)"'), ("'", '"\'"'),
    (", ", '", "'), (" ; ", '" ; "'), ((), "()"), ((1,), "(1)"), (((),), "(())"), (("next", "write"), '("next", "write")'),
    ((0, 0), "(0, 0)"), ((True, False, None, -5, "a", ()), '(yes, no, none, -5, "a", ())'), (((1, (2,)), ((),)), "((1, (2)), (()))"),
]
WRONG = [
    "", " ", "(", ")", "((", "())", "(()", "(1", "1)", "(1,)", "(1,2)", "(1 , 2)", "(1,  2)", "( 1)", "(1 )", "(, 1)", "(1, )", "(,)",
    "()()", "() ", " ()", "01", "00", "-0", "-", "--1", "+1", "1 ", " 1", "1.0", "1e3", "1_0", "0x1", "- 1", "-01", "yes ", "Yes", "yess",
    "True", "None", "nonee", "noyes", "nono", "none none", "true", '"', '"a', 'a"', '"a"b', '"a""b"', '"a\\"', '"\\n"', '"a\nb"', "'a'",
    "a", "next", '("next" "write")', '("next","write")', "[1]", "(1; 2)", "1\n", "\n1", "\u0661", "\u00b2", "1\u0661",
]


def random_thing(rng, depth):
    kind = rng.randrange(7 if depth else 5)
    if kind == 0:
        return rng.randrange(-3, 12)
    if kind == 1:
        return rng.choice([True, False, None, ()])
    if kind == 2:
        return "".join(rng.choice("ab ,()-0'yes?;") for _ in range(rng.randrange(6)))
    if kind == 3:
        return rng.choice([-1, 1]) * rng.randrange(10 ** rng.randrange(1, 150))
    if kind == 4:
        return rng.choice(["no", "ok 1", 0, 1])
    return tuple(random_thing(rng, depth - 1) for _ in range(rng.randrange(4)))


class PlainTest(unittest.TestCase):
    def assert_same(self, value, text):
        self.assertEqual(plain_text(value), text)
        # repr tells 1 from True, also within.
        self.assertEqual(repr(read_plain(text)), repr(value))
        self.assertTrue(is_plain(value))

    def assert_wrong(self, value):
        with self.assertRaises(InvalidText) as caught:
            read_plain(value)
        self.assertEqual(caught.exception.at, 0)

    def test_texts(self):
        for value, text in SINGLE + THINGS:
            self.assert_same(value, text)
        for value, text in THINGS:
            self.assert_same((value, value), "(%s, %s)" % (text, text))

    def test_bools_are_no_integers(self):
        self.assert_same((True, 1, 0, False), "(yes, 1, 0, no)")

    def test_very_long_integers(self):
        for size in (63, 64, 65, 127, 128, 129, 900, 4000, 4200, 5000):
            for value, digits in ((10 ** size - 1, "9" * size), (10 ** size, "1" + "0" * size), (10 ** size + 5, "1" + "0" * (size - 1) + "5")):
                self.assertEqual(plain_text(value), digits)
                self.assertEqual(plain_text((-value,)), "(-" + digits + ")")
                self.assertEqual(read_plain("-" + digits), -value)
        self.assert_wrong("0" + "1" * 4000)

    def test_deeply_nested(self):
        for depth in (1, 5, 12, 200):
            value = 1
            for _ in range(depth):
                value = (value,)
            self.assertEqual(plain_text(value), "(" * depth + "1" + ")" * depth)
            self.assertEqual(read_plain("(" * depth + "1" + ")" * depth), value)
        for text in ("(" * 2000, ")" * 2000, "(" * 2000 + "1" + ")" * 1999, "(" * 1999 + "1" + ")" * 2000, "(, " * 600):
            self.assert_wrong(text)

    def test_wrong_texts(self):
        for text in WRONG:
            self.assert_wrong(text)
            if "(" not in text and ")" not in text and text:
                self.assert_wrong("(" + text + ", 1)")
                self.assert_wrong("(1, " + text + ")")

    def test_any_values(self):
        for value in any_values() + [1, (1,), None, ["1"], ("1",)]:
            if value != "no":
                self.assert_wrong(value)
        self.assertIs(read_plain("no"), False)

    def test_texts_with_one_sign_otherwise(self):
        # A text of another thing, or none: never the same thing by two texts.
        for text in [text for _, text in THINGS] + ['(3, "a b", -12, (yes, no))']:
            thing = read_plain(text)
            for at in range(len(text)):
                others = [text[:at] + text[at + 1:]]
                others += [text[:at] + sign + text[at + 1:] for sign in '(), "\\\n-01y']
                others += [text[:at] + sign + text[at:] for sign in '(), "\\\n-01y']
                for other in others:
                    try:
                        found = read_plain(other)
                    except InvalidText:
                        continue
                    self.assertEqual(plain_text(found), other)
                    self.assertEqual(repr(found) == repr(thing), other == text)

    def test_random_things(self):
        for seed in range(2000):
            thing = random_thing(random.Random(seed), 4)
            self.assertEqual(repr(read_plain(plain_text(thing))), repr(thing))

    def test_is_plain(self):
        for value in ['a"', "\n", "a\\b", [], [1], ([],), (1, ("a", ["b"])), {1: 2}, b"a", 1.5, ('"',), ("ok", ("\\",))] + OBJECTS:
            self.assertFalse(is_plain(value), value)
            self.assertFalse(is_plain((1, value)))

    def test_by_parameter_names(self):
        self.assertEqual((plain_text(value=(1,)), read_plain(text="(1)")), ("(1)", (1,)))


if __name__ == "__main__":
    unittest.main()
