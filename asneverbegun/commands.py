"""The forms of the commands of a desk."""

from asneverbegun.basics import is_name, is_number_text
from asneverbegun.errors import InvalidCommand
from asneverbegun.events import is_harm

# What comes behind the first word of each command. Texts and events take all words that are left.
FORMS = {
    "system": ("name", "text"),
    "claim": ("text",),
    "book": ("text",),
    "write": (),
    "live": ("name", "scene", "number"),
    "do": ("event",),
    "undo": (),
    "scene": (),
    "log": (),
    "harms": ("name",),
    "meets": ("name", "harm"),
    "story": ("name", "harm"),
    "keep": (),
    "known": ("name",),
    "check": (),
    "drop": ("number",),
}


def read_command(value):
    """Returns any value, which must be a command, as a list: its first word, and what it tells behind it."""
    if not isinstance(value, str) or "\n" in value:
        raise InvalidCommand()
    words = value.split(" ")
    if "" in words or words[0] not in FORMS:
        raise InvalidCommand()
    kinds = FORMS[words[0]]
    rest = words[1:]
    if len(kinds) > 0 and kinds[-1] in ("text", "event") and len(rest) > len(kinds):
        last = len(kinds) - 1
        rest = [*rest[:last], " ".join(rest[last:])]
    if len(rest) != len(kinds):
        raise InvalidCommand()
    things = [_read_word(kind, word) for kind, word in zip(kinds, rest)]
    if any([thing is None for thing in things]):
        raise InvalidCommand()
    return [words[0], *things]


def _read_word(kind, word):
    """Returns what a word (or what is left) tells, None if it is not of this kind."""
    if kind == "text":
        return word.replace(" ; ", "\n")
    if kind == "event":
        return word
    if kind == "name":
        return word if is_name(word) else None
    if kind == "harm":
        return word if is_harm(word) else None
    if kind == "number":
        return int(word) if is_number_text(word) else None
    values = word.split(",")
    return tuple([int(number) for number in values]) if all([is_number_text(number) for number in values]) else None
