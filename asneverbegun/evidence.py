"""Whether a claim holds for a system: histories are played, papers are looked through."""

from asneverbegun.calm import calm_holds
from asneverbegun.editions import reading_holds
from asneverbegun.errors import Refused
from asneverbegun.ideals import seen_as_one
from asneverbegun.opposites import clean_holds
from asneverbegun.plans import is_do_line
from asneverbegun.stage import play
from asneverbegun.systems import TAGS


def claim_holds(system, claim):
    """Tells whether a claim holds for the system that it names."""
    word, things = claim[0], claim[2:]
    if word == "story":
        return _is_story(system, things)
    if word == "alike":
        return _are_alike(system, things)
    if word == "clean":
        return _is_clean_paper(system, things)
    if word == "reads":
        return len(system.editions) == 2 and reading_holds(system, things[0])
    return len(system.tags) == len(TAGS) and calm_holds(system, things[0], things[1])


def _is_story(system, things):
    """Tells whether a harm is met by the last event of a history, and none ahead."""
    harm, start, edition, events = things
    if not _can_begin(system, start, edition):
        return False
    try:
        met = play(system, start, edition, events).met
    except Refused:
        return False
    last = len(events) - 1
    return (last, harm) in met and all([at == last for at, _ in met])


def _are_alike(system, things):
    start, edition, events, others = things
    if not _can_begin(system, start, edition):
        return False
    try:
        return seen_as_one(system, start, edition, events, others)
    except Refused:
        return False


def _is_clean_paper(system, things):
    edition, at, paper = things
    if edition >= len(system.editions) or not is_do_line(system.editions[edition], at):
        return False
    return clean_holds(system, edition, at, paper)


def _can_begin(system, start, edition):
    return start in system.starts and edition < len(system.editions)
