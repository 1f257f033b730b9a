"""Which gears are enough, and how hosts ahead of the same place do harm to one another."""

from asneverbegun.events import HARMS
from asneverbegun.harms import harms
from asneverbegun.plans import do_lines
from asneverbegun.trails import ALL_KINDS, Trails
from asneverbegun.walker import Walker


def enough(system, at, gear):
    """Tells whether no first "again" or "unlike" is met at a place of a line if it has this gear."""
    geared = system.with_editions([system.editions[0].with_gear(at, gear)])
    trails = Trails(Walker(geared, True, at), ALL_KINDS, ("again", "unlike"))
    return not any([harm in trails.found for harm in ("again", "unlike")])


def least_gears(system):
    """Returns for each `do` line the first one of (), ("claim",), ("key",) that is enough."""
    return tuple([_least_gear(system, at) for at in do_lines(system.editions[0])])


def _least_gear(system, at):
    # With `key` nothing is done twice for a place, so it is always enough.
    for gear in ((), ("claim",)):
        if enough(system, at, gear):
            return gear
    return ("key",)


def needless(system):
    """Returns the lot of the triples (edition, line, word) of gear words without which the same harms happen."""
    there, found = list(harms(system)), []
    for edition, plan in enumerate(system.editions):
        for at in do_lines(plan):
            for word in plan.gear(at):
                less = plan.with_gear(at, [other for other in plan.gear(at) if other != word])
                if _has_harms(_with_edition(system, edition, less), there):
                    found.append((edition, at, word))
    return tuple(found)


def _has_harms(system, there):
    """Tells whether just these harms happen."""
    others = [harm for harm in HARMS if harm not in there]
    trails = Trails(Walker(system, True), ALL_KINDS, others)
    return sorted(trails.found) == there


def _with_edition(system, edition, plan):
    return system.with_editions([*system.editions[:edition], plan, *system.editions[edition + 1:]])


def joints(system):
    """Returns the lot of the joints (i, a, j, b, way, agree), the gear words `claim` and `key` left aside."""
    walker = Walker(with_table(system, _empty_table(system)), True, None, True)
    found = {}
    for state in Trails(walker, ALL_KINDS).ways:
        for _, _, _, _, who in walker.steps(state):
            if who is not None:
                asker, way, (other, at, agree) = who
                edition, line, _, _ = walker.chart.askers.rows[asker]
                found[(edition, line, other, at, way, agree)] = True
    return tuple(sorted(found))


def stops(system, table):
    """Tells whether a table stops all joints."""
    words = _words_of(system, table)
    return all([_is_stopped(joint, words) for joint in joints(system)])


def stopped(system, table):
    """Returns the lot of the joints that a table stops."""
    words = _words_of(system, table)
    return tuple([joint for joint in joints(system) if _is_stopped(joint, words)])


def least_tables(system):
    """Returns the ascending tuple of the least tables that stop all joints."""
    rows = joints(system)
    if any([way == "lost" and not agree for _, _, _, _, way, agree in rows]):
        return ()
    tables = [_with_keys({}, [row for row in rows if row[4] == "lost"])]
    for line in _lines(system):
        late = [row for row in rows if row[:2] == line and row[4] == "late"]
        if late:
            claims = [_with_word(words, line, "claim") for words in tables]
            is_either = all([agree for _, _, _, _, _, agree in late])
            tables = claims + ([_with_keys(words, late) for words in tables] if is_either else [])
    found = [_table_of(system, words) for words in tables]
    return tuple(sorted(set([table for table in found if not _has_less(table, found)])))


def with_table(system, table):
    """Returns the system whose lines have the words of a table, and `ahead` where they had it."""
    for edition, lots in enumerate(table):
        plan, gears = system.editions[edition], []
        for at, lot in zip(do_lines(plan), lots):
            gears.append([word for word in plan.gear(at) if word == "ahead"] + list(lot))
        system = system.with_gears(edition, gears)
    return system


def _empty_table(system):
    return tuple([tuple([() for _ in do_lines(plan)]) for plan in system.editions])


def _lines(system):
    """Returns the pairs (edition, line) of all `do` lines."""
    return [(edition, at) for edition, plan in enumerate(system.editions) for at in do_lines(plan)]


def _words_of(system, table):
    """Returns a table as a dict from (edition, line) to its lot."""
    lots = [lot for row in table for lot in row]
    return dict(zip(_lines(system), lots))


def _table_of(system, words):
    """Returns the table that a dict from (edition, line) to lots tells."""
    rows = []
    for edition, plan in enumerate(system.editions):
        rows.append(tuple([words.get((edition, at), ()) for at in do_lines(plan)]))
    return tuple(rows)


def _is_stopped(joint, words):
    edition, line, other, at, way, agree = joint
    if way == "late" and "claim" in words[(edition, line)]:
        return True
    return agree and "key" in words[(edition, line)] and "key" in words[(other, at)]


def _with_word(words, line, word):
    found = {there: words[there] for there in words}
    if word not in found.get(line, ()):
        found[line] = tuple(sorted([*found.get(line, ()), word]))
    return found


def _with_keys(words, rows):
    """Returns the words of a table with `key` in all lines of these joints."""
    for edition, line, other, at, _, _ in rows:
        words = _with_word(_with_word(words, (edition, line), "key"), (other, at), "key")
    return words


def _has_less(table, tables):
    """Tells whether one of the tables is less than this one."""
    return any([other != table and _is_part(other, table) for other in tables])


def _is_part(other, table):
    for lots, greater in zip(other, table):
        for lot, more in zip(lots, greater):
            if not all([word in more for word in lot]):
                return False
    return True
