"""Crowds: any number of works of one system, which are a street for each other."""

from asneverbegun.basics import is_part, lots_of
from asneverbegun.events import HARMS
from asneverbegun.names import deeds_of
from asneverbegun.trails import ALL_KINDS, Trails
from asneverbegun.walker import Walker


def crowd(system):
    """Returns the system in whose street are all deeds and opposites of its own editions, too."""
    return system.with_street(sorted(set([*system.street, *deeds_of(system)])))


def streets(system):
    """Returns the lot of the greatest lots of names from the street with which the system is sound."""
    sound_lots, others = [], []
    for lot in lots_of(system.street)[::-1]:
        is_known = any([is_part(lot, more) for more in sound_lots]) or any([is_part(less, lot) for less in others])
        if not is_known:
            names = _names_of_story(system.with_street(lot))
            if names is None:
                sound_lots.append(lot)
            else:
                others.append(names)
    return tuple(sorted(sound_lots))


def _names_of_story(system):
    """Returns the lot of names of the street in some story of some harm; None if no harm happens.

    With these names in the street, and perhaps more, the story can be played.
    """
    trails = Trails(Walker(system, True), ALL_KINDS, HARMS)
    for harm in trails.found:
        _, _, events = trails.story(harm)
        return tuple([name for name in system.street if "street " + name in events])
    return None
