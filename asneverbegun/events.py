"""The forms of events, and the words of the harms."""

from asneverbegun.basics import is_name, is_number_text, is_sequence
from asneverbegun.errors import InvalidEvent

HARMS = ("again", "unlike", "loose", "astray", "stale", "stuck", "left", "noticed")
CALM_HARMS = ("again", "unlike", "loose", "astray")
FIRST_HARMS = ("again", "unlike", "loose", "astray", "stale")


def read_event(value):
    """Returns any value that is an event as a pair (kind, what): a number, a name or None; otherwise None."""
    if not isinstance(value, str):
        return None
    if value in ("next", "write"):
        return (value, None)
    words = value.split(" ")
    if len(words) == 2 and words[0] in ("over", "late") and is_number_text(words[1]):
        return (words[0], int(words[1]))
    if len(words) == 2 and words[0] == "street" and is_name(words[1]):
        return ("street", words[1])
    return None


def read_events(value):
    """Returns the pairs of all events of any value, which must be a sequence of events."""
    if not is_sequence(value):
        raise InvalidEvent(0)
    rows = []
    for at, event in enumerate(value):
        row = read_event(event)
        if row is None:
            raise InvalidEvent(at)
        rows.append(row)
    return rows


def event_text(kind, what):
    """Returns the event with such a pair."""
    return kind if what is None else f"{kind} {what}"


def is_harm(value, words=HARMS):
    """Tells whether any value is one of these words (of all harms, if none are told)."""
    return value in words
