"""Plain things: integers, bools, None, strings without quotes, newlines and backslashes, and tuples of such."""

from asneverbegun.basics import DIGITS, digits_of, is_integer, number_of
from asneverbegun.errors import InvalidText

WORDS = (("yes", True), ("none", None), ("no", False), ("()", ()))


def plain_text(value):
    """Returns the text of a plain thing."""
    parts = []
    # What is still to be written, the next one last: pairs (whether it is a sign, what it is).
    rest = [(False, value)]
    while rest:
        is_sign, thing = rest.pop()
        if is_sign:
            parts.append(thing)
        elif isinstance(thing, tuple):
            parts.append("(")
            rest.append((True, ")"))
            for at in range(len(thing) - 1, -1, -1):
                rest.append((False, thing[at]))
                if at > 0:
                    rest.append((True, ", "))
        else:
            parts.append(_single_text(thing))
    return "".join(parts)


def read_plain(text):
    """Returns the plain thing with a text."""
    found = read_thing(text, 0) if isinstance(text, str) else None
    if found is None or found[1] != len(text):
        raise InvalidText(0)
    return found[0]


def is_plain(value):
    """Tells whether any value is a plain thing."""
    rest = [value]
    while rest:
        thing = rest.pop()
        if isinstance(thing, tuple):
            rest.extend(thing)
        elif not _is_single(thing):
            return False
    return True


def read_thing(text, at):
    """Returns the plain thing that begins at a place of a text, and the place behind it; None if there is none."""
    rows = []
    while True:
        while text[at:at + 1] == "(" and text[at + 1:at + 2] != ")":
            rows.append([])
            at += 1
        found = _read_single(text, at)
        if found is None:
            return None
        thing, at = found
        while rows and text[at:at + 1] == ")":
            rows[-1].append(thing)
            thing = tuple(rows.pop())
            at += 1
        if not rows:
            return (thing, at)
        if text[at:at + 2] != ", ":
            return None
        rows[-1].append(thing)
        at += 2


def _single_text(thing):
    if isinstance(thing, str):
        return '"' + thing + '"'
    if is_integer(thing):
        return digits_of(thing) if thing >= 0 else "-" + digits_of(-thing)
    if thing is None:
        return "none"
    return "yes" if thing else "no"


def _is_single(value):
    """Tells whether any value is a plain thing, and no tuple."""
    if isinstance(value, str):
        return not any([sign in value for sign in ('"', "\n", "\\")])
    return value is None or isinstance(value, int)


def _read_single(text, at):
    """Returns the thing (no tuple but an empty one) that begins at a place, and the place behind it; or None."""
    for word, thing in WORDS:
        if text[at:at + len(word)] == word:
            return (thing, at + len(word))
    if text[at:at + 1] != '"':
        return _read_integer(text, at)
    end = text.find('"', at + 1)
    if end == -1 or not _is_single(text[at + 1:end]):
        return None
    return (text[at + 1:end], end + 1)


def _read_integer(text, at):
    sign = text[at:at + 1] == "-"
    first = at + 1 if sign else at
    end = first
    while end < len(text) and text[end] in DIGITS:
        end += 1
    if end == first or text[first] == "0" and (sign or end > first + 1):
        return None
    number = number_of(text[first:end])
    return (-number if sign else number, end)
