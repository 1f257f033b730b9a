"""Which harms can be met first in histories of a system, by which stories, and by which kinds of events."""

from asneverbegun.errors import InvalidHarm
from asneverbegun.events import is_harm
from asneverbegun.trails import ALL_KINDS, Trails
from asneverbegun.walker import Walker

KINDS = ("late", "lost", "newer", "street")


def happens(system, harm):
    """Tells whether a harm is met in some history by an event ahead of which none was met."""
    if not is_harm(harm):
        raise InvalidHarm()
    return harm in _trails(system, (harm,)).found


def harms(system):
    """Returns the lot of the harms that happen."""
    return tuple(sorted(_trails(system, ()).found))


def sound(system):
    """Tells whether no harm happens."""
    return harms(system) == ()


def story(system, harm):
    """Returns some history by whose last event a harm is met, and none ahead: (start, edition, events), or None."""
    if not is_harm(harm):
        raise InvalidHarm()
    trails = _trails(system, (harm,))
    return trails.story(harm) if harm in trails.found else None


def stories(system):
    """Returns for each harm that happens a pair of the harm and some story of it."""
    trails = _trails(system, ())
    return tuple([(harm, trails.story(harm)) for harm in sorted(trails.found)])


def meets(system, harm):
    """Returns the lot of the least lots of kinds of events that are enough for a harm to happen."""
    if not is_harm(harm):
        raise InvalidHarm()
    walker = Walker(system, True)
    if harm not in Trails(walker, ALL_KINDS, (harm,)).found:
        return ()
    enough = []
    # The parts of a lot of kinds have lesser sums, so they come ahead of it.
    for kinds in range(ALL_KINDS + 1):
        is_greater = any([kinds & lot == lot for lot in enough])
        if not is_greater and harm in Trails(walker, kinds, (harm,)).found:
            enough.append(kinds)
    return tuple(sorted([_words_of(kinds) for kinds in enough]))


def _words_of(kinds):
    """Returns the lot of the kinds in a sum of kinds: the first one counts 1, the next one 2, and so on."""
    return tuple([word for at, word in enumerate(KINDS) if kinds >> at & 1])


def _trails(system, wanted):
    return Trails(Walker(system, True), ALL_KINDS, wanted)
