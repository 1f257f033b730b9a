"""Quarrels: which harms the members of a company do to one another when nothing falls."""

from asneverbegun.basics import is_part, lots_of
from asneverbegun.charts import Roll
from asneverbegun.companies import front
from asneverbegun.errors import InvalidHarm
from asneverbegun.events import is_harm
from asneverbegun.harms import harms
from asneverbegun.opposites import clean
from asneverbegun.plans import do_lines
from asneverbegun.standings import Standings
from asneverbegun.weaving import PLAIN_HARMS, Weaving


def quarrels(company):
    """Returns the lot of the pairs (member, harm) that are met in some plain woven history."""
    found = []
    for member in _all_of(company):
        met = Weaving(company, member, _all_of(company)).look(PLAIN_HARMS, len(PLAIN_HARMS))
        found.extend([(member, harm) for harm in met])
    return tuple(found)


def quarrel(company, member, harm):
    """Returns some plain woven history by whose last event a member meets a harm first: (start, rows), or None."""
    if not is_harm(harm):
        raise InvalidHarm()
    weaving = Weaving(company, member, _all_of(company))
    return weaving.history(harm) if weaving.look((harm,), 1) else None


def alarms(company):
    """Returns the lot of the pairs (member, harm) that happen in the member's front, but are no quarrels."""
    fronts = [front(company, member) for member in _all_of(company)]
    there = quarrels(company)
    found = []
    for member, system in enumerate(fronts):
        met = [harm for harm in harms(system) if harm in PLAIN_HARMS]
        found.extend([(member, harm) for harm in met if (member, harm) not in there])
    return tuple(found)


def blame(company, member, harm):
    """Returns the lot of the least lots of other members that are enough for a harm of a member."""
    if not is_harm(harm):
        raise InvalidHarm()
    enough = []
    for lot in lots_of([at for at in _all_of(company) if at != member]):
        is_greater = any([is_part(less, lot) for less in enough])
        if not is_greater and Weaving(company, member, lot).look((harm,), 1):
            enough.append(lot)
    return tuple(sorted(enough))


def calm_lots(company):
    """Returns the lot of the greatest lots of members without a quarrel among them."""
    found = []
    for lot in lots_of(_all_of(company))[::-1]:
        is_lesser = any([is_part(lot, more) for more in found])
        if not is_lesser and not any([Weaving(company, member, lot).look(PLAIN_HARMS, 1) for member in lot]):
            found.append(lot)
    return tuple(sorted(found))


def rough(company, member):
    """Returns the lot of the `do` lines of a member that are not clean in its front."""
    system = front(company, member)
    return tuple([at for at in do_lines(system.editions[0]) if not clean(system, 0, at)])


def quiet_paper(company, member):
    """Returns a quiet paper for a member, or None if it has quarrels."""
    if Weaving(company, member, _all_of(company)).look(PLAIN_HARMS, 1):
        return None
    standings = Standings(company, member)
    found = Roll(standings.beginnings())
    at = 0
    while at < len(found.rows):
        found.take(standings.led_to(found.rows[at]))
        at += 1
    return tuple([standings.standing_of(state) for state in found.rows])


def quiet_holds(company, member, value):
    """Tells whether any value is a quiet paper for a member."""
    standings = Standings(company, member)
    if not isinstance(value, tuple) or not all([standings.fits(row) for row in value]):
        return False
    rows = {standings.state_of(row): True for row in value}
    if not all([state in rows for state in standings.beginnings()]):
        return False
    for state in rows:
        behind = standings.led_to(state)
        if behind is None or not all([other in rows for other in behind]):
            return False
    return True


def _all_of(company):
    """Returns the numbers of all members."""
    return tuple(range(len(company.members)))
