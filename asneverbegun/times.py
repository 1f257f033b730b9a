"""Times: how late a deed of an elder host can come, by leases, holds and clocks that drift."""

from asneverbegun.ages import harmful_ages
from asneverbegun.basics import is_integer, is_number, is_tuple
from asneverbegun.errors import InvalidTimes
from asneverbegun.gears import enough
from asneverbegun.memories import keyed_lines
from asneverbegun.plans import do_lines
from asneverbegun.ratios import ceiling_of, divided, floor_of, is_less, is_ratio, minus, plus, times_of

NOTHING = (0, 1)
ONE = (1, 1)


class Times:
    """The ticks of a lease, of a hold, of a way and of an entry, and the drift of all clocks."""

    def __init__(self, lease, hold, way, entry, drift=(0, 1)):
        if not _is_tick(lease):
            raise InvalidTimes("lease")
        if not _is_tick(hold):
            raise InvalidTimes("hold")
        if not is_number(way):
            raise InvalidTimes("way")
        if not _is_tick(entry):
            raise InvalidTimes("entry")
        if not is_ratio(drift) or not is_less(drift, ONE):
            raise InvalidTimes("drift")
        self.lease = lease
        self.hold = hold
        self.way = way
        self.entry = entry
        self.drift = drift

    def __eq__(self, other):
        return isinstance(other, Times) and _told(self) == _told(other)


def lateness(times):
    """Returns how late a deed of an elder host can be done behind the takeover, (0, 1) if it can't."""
    late = minus(_last(times.hold, times.way, times.drift), _first(times.lease, times.drift))
    return late if is_less(NOTHING, late) else NOTHING


def can_stray(times):
    """Tells whether there is a stray."""
    return is_less(NOTHING, lateness(times))


def stray(times):
    """Returns the stray that is as late as possible, or None if there is none."""
    if not can_stray(times):
        return None
    taken, late = _first(times.lease, times.drift), _last(times.hold, times.way, times.drift)
    return (minus(ONE, times.drift), plus(ONE, times.drift), taken, late)


def stray_holds(times, value):
    """Tells whether any value is a stray."""
    if not is_tuple(value, 4) or not all([is_ratio(row) for row in value]):
        return False
    host, keeper, taken, late = value
    if not _is_rate(times, host) or not _is_rate(times, keeper) or not is_less(taken, late):
        return False
    end = plus(divided((times.hold, 1), host), (times.way, 1))
    return not is_less(taken, divided((times.lease, 1), keeper)) and not is_less(end, late)


def late_entries(times):
    """Returns how many closed entries new hosts can write between a takeover and a stray."""
    return floor_of(divided(lateness(times), (times.entry, 1)))


def least_lease(hold, way, drift):
    """Returns the least lease with which there is no stray."""
    return ceiling_of(times_of(_last(hold, way, drift), plus(ONE, drift)))


def greatest_hold(lease, way, drift):
    """Returns the greatest hold with which there is no stray, or None."""
    most = floor_of(times_of(minus(_first(lease, drift), (way, 1)), minus(ONE, drift)))
    return most if most >= 1 else None


def least_keeping(times):
    """Returns the least number of ticks for which the world must keep answers."""
    return ceiling_of(times_of(lateness(times), plus(ONE, times.drift)))


def memory_under(system, times):
    """Returns the greatest age that comes about at a late deed of a line with `key` and no `claim`, and is harmful."""
    most = late_entries(times)
    rows = [harmful for at in keyed_lines(system) for harmful in harmful_ages(system, at)]
    return max([0] + [harmful.greatest_up_to(most) for harmful in rows])


def gears_under(system, times):
    """Returns for each `do` line the first one of (), ("claim",), ("key",) that is enough under these times."""
    most = late_entries(times)
    return tuple([_least_gear(system, at, most) for at in do_lines(system.editions[0])])


def _least_gear(system, at, most):
    is_claim_enough = enough(system, at, ("claim",))
    if enough(system, at, ()) or is_claim_enough and not _is_late(system, at, most):
        return ()
    return ("claim",) if is_claim_enough else ("key",)


def _is_late(system, at, most):
    """Tells whether some age up to a number is harmful for a line."""
    ages = [harmful.least() for harmful in harmful_ages(system, at)]
    return any([age is not None and age <= most for age in ages])


def _is_tick(value):
    return is_integer(value) and value >= 1


def _told(times):
    return (times.lease, times.hold, times.way, times.entry, times.drift)


def _is_rate(times, rate):
    """Tells whether a clock can have a rate."""
    return not is_less(rate, minus(ONE, times.drift)) and not is_less(plus(ONE, times.drift), rate)


def _first(lease, drift):
    """Returns the earliest moment of a takeover: the keeper is as fast as can be."""
    return divided((lease, 1), plus(ONE, drift))


def _last(hold, way, drift):
    """Returns the latest moment of a deed of the elder host, which is as slow as can be."""
    return plus(divided((hold, 1), minus(ONE, drift)), (way, 1))
