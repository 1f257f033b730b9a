"""Claims about systems, by their form: what they say, and their texts."""

from asneverbegun.basics import is_name, is_number
from asneverbegun.errors import InvalidText
from asneverbegun.events import CALM_HARMS, is_harm, read_event
from asneverbegun.plainthings import is_plain, plain_text, read_thing

# What comes behind the word and the name of each claim.
FORMS = {
    "story": ("harm", "start", "number", "events"),
    "alike": ("start", "number", "events", "events"),
    "clean": ("number", "number", "paper"),
    "reads": ("paper",),
    "calm": ("calm harm", "paper"),
}


def is_claim(value):
    """Tells whether any value is a claim by its form."""
    if not isinstance(value, tuple) or len(value) < 2 or not isinstance(value[0], str) or value[0] not in FORMS:
        return False
    kinds = FORMS[value[0]]
    if len(value) != len(kinds) + 2 or not is_name(value[1]):
        return False
    return all([_is_of_kind(kind, thing) for kind, thing in zip(kinds, value[2:])])


def claim_text(claim):
    """Returns the text of a claim."""
    words = [claim[0], claim[1]]
    for kind, thing in zip(FORMS[claim[0]], claim[2:]):
        words.append(thing if kind in ("harm", "calm harm") else plain_text(thing))
    return " ".join(words)


def read_claim(text):
    """Returns the claim with a text."""
    claim = _read(text) if isinstance(text, str) else None
    if not is_claim(claim):
        raise InvalidText(0)
    return claim


def _is_of_kind(kind, value):
    """Tells whether any value can stand where a claim has something of this kind."""
    if kind == "harm":
        return is_harm(value)
    if kind == "calm harm":
        return is_harm(value, CALM_HARMS)
    if kind == "number":
        return is_number(value)
    if not isinstance(value, tuple):
        return False
    if kind == "start":
        return all([is_number(thing) for thing in value])
    if kind == "events":
        return all([read_event(thing) is not None for thing in value])
    return is_plain(value)


def _read(text):
    """Returns what a text tells, whose things can still be of the wrong kinds; None if it can be no claim."""
    words = text.split(" ")
    if len(words) < 2 or words[0] not in FORMS:
        return None
    things = words[:2]
    at = len(words[0]) + 1 + len(words[1])
    for kind in FORMS[words[0]]:
        if text[at:at + 1] != " ":
            return None
        found = _read_of_kind(kind, text, at + 1)
        if found is None:
            return None
        thing, at = found
        things.append(thing)
    return tuple(things) if at == len(text) else None


def _read_of_kind(kind, text, at):
    """Returns the thing that begins at a place of a text, and the place behind it, or None."""
    if kind not in ("harm", "calm harm"):
        return read_thing(text, at)
    word = text[at:].partition(" ")[0]
    return (word, at + len(word))
