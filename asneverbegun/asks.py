"""Asks: what a host asks of the world, told apart by the word and by what an opposite gets back.

An ask is a pair (word, old): the name of a deed, or `undo ` and the name of an opposite; old is the lot of
the pairs (cell, value) that an opposite gets back, () for others.
"""

from asneverbegun.worlds import done, told


def ask_of(world, forms, thing):
    """Returns the ask of a thing (see reading) that is to ask."""
    _, word, at, answer = thing
    if answer is None:
        return (word, ())
    return (word, told(world, forms[at][1], answer))


def deed_of(ask):
    """Returns the name of the deed that an ask wants done."""
    return ask[0].split(" ")[-1]


def is_undoing(ask):
    """Tells whether an ask is that of an opposite."""
    return ask[0].startswith("undo ")


def asked(world, scene, ask):
    """Does what is asked: returns the answer and the scene behind it."""
    return done(world, scene, deed_of(ask), ask[1])
