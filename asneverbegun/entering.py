"""The next closed entry of an edition: a deed is asked and written at once, without an open entry."""

from asneverbegun.asks import ask_of, asked
from asneverbegun.reading import behind, cut_stand, next_thing


def next_entry(world, forms, scene, stand):
    """Returns the next entry, and the scene and the stand behind it; None if there is none.

    The stand has no open entry; behind `cut K` it is that with the log `cut K` alone.
    """
    thing = next_thing(forms, stand)
    kind, text, _, _ = thing
    if kind == "over":
        return None
    if kind == "ask":
        answer, scene = asked(world, scene, ask_of(world, forms, thing))
        text = text + " " + answer
    if text.startswith("cut "):
        return (text, scene, cut_stand(forms, text))
    return (text, scene, behind(forms, stand, text))


def is_opening(forms, stand):
    """Tells whether the next thing at a stand is to write an open entry."""
    kind, _, at, _ = next_thing(forms, stand)
    return kind == "ask" and not stand[2] and "ahead" in forms[at][3]


def opened(stand, is_open):
    """Returns the stand with an open entry, or without one."""
    return (stand[0], stand[1], is_open, stand[3])
