"""What a book tells of its systems: which harms happen, and which never do."""

from asneverbegun.basics import is_part
from asneverbegun.books import Book, holds
from asneverbegun.calm import calm_papers
from asneverbegun.editions import reading_paper
from asneverbegun.events import FIRST_HARMS, HARMS
from asneverbegun.harms import stories
from asneverbegun.opposites import clean_paper
from asneverbegun.plans import do_lines
from asneverbegun.systems import TAGS

HAPPENS = "happens"
NEVER = "never"


def under(one, other):
    """Tells whether each history of one system is one of the other one, by the look of both."""
    if one.world.cells != other.world.cells or one.world.deeds != other.world.deeds or one.tags != other.tags:
        return False
    if not is_part(one.starts, other.starts) or not is_part(one.street, other.street):
        return False
    return one.editions == other.editions[:len(one.editions)]


def known(book, name):
    """Returns the ascending tuple of the pairs (harm, word) that are known of the system with a name."""
    book.of_name(name)
    told = _all_known(book, [book.claims[at] for at in _holding(book)])[name]
    return tuple([(harm, told[harm]) for harm in sorted(told)])


def full_book(name, system):
    """Returns some book with a system alone, and claims that tell all that can be shown of it."""
    # A name that is none is told ahead of all searches.
    book = Book([(name, system)])
    claims = [("story", name, harm, start, edition, events) for harm, (start, edition, events) in stories(system)]
    for edition, plan in enumerate(system.editions):
        for at in do_lines(plan):
            claims.append(("clean", name, edition, at, clean_paper(system, edition, at)))
    if _has_both_tags(system):
        claims.extend([("calm", name, harm, paper) for harm, paper in calm_papers(system)])
    if len(system.editions) == 2:
        claims.append(("reads", name, reading_paper(system)))
    # A paper that there is not is None.
    return Book(book.systems, [claim for claim in claims if claim[-1] is not None])


def gaps(book, name):
    """Returns the lot of the harms of which nothing is known."""
    told = [harm for harm, _ in known(book, name)]
    return tuple(sorted([harm for harm in HARMS if harm not in told]))


def spare(book):
    """Returns the lot of the numbers of the claims without which, each alone, the same is known."""
    holding = _holding(book)
    whole = _all_known(book, [book.claims[at] for at in holding])
    found = []
    for number in range(len(book.claims)):
        rest = [book.claims[at] for at in holding if at != number]
        if number not in holding or _all_known(book, rest) == whole:
            found.append(number)
    return tuple(found)


def _holding(book):
    """Returns the numbers of the claims that hold."""
    return [at for at in range(len(book.claims)) if holds(book, at)]


def _has_both_tags(system):
    return len(system.tags) == len(TAGS)


def _all_known(book, claims):
    """Returns for each name a dict from harms to what is known of them, by these claims, which hold."""
    told = {}
    for name, system in book.systems:
        told[name] = _known_alone(system, [claim for claim in claims if claim[1] == name])
    pairs = _pairs_under(book)
    many = -1
    while many != _size_of(told):
        many = _size_of(told)
        for name, system in book.systems:
            lines = [claim[3] for claim in claims if claim[0] == "clean" and claim[1] == name]
            _note_peeling(system, lines, told[name])
        for one, other in pairs:
            _note_pair(told[one], told[other])
    return told


def _pairs_under(book):
    """Returns the pairs of names of which the system of the first one is under that of the second one."""
    rows = [(one, other) for one in book.systems for other in book.systems if one[0] != other[0]]
    return [(one[0], other[0]) for one, other in rows if under(one[1], other[1])]


def _size_of(told):
    return sum([len(told[name]) for name in told])


def _known_alone(system, claims):
    """Returns what claims about a system tell by themselves, and what its form tells."""
    found = {}
    for claim in claims:
        if claim[0] == "story":
            found[claim[2]] = HAPPENS
        elif claim[0] == "calm":
            found[claim[2]] = NEVER
    if len(system.editions) == 1 or any([claim[0] == "reads" for claim in claims]):
        found["astray"] = NEVER
    if _has_both_tags(system):
        found["stale"] = NEVER
    if len(system.street) == 0:
        found["noticed"] = NEVER
    return found


def _note_peeling(system, lines, harms):
    """Notes what clean papers for these lines tell, if it is known that none of the first harms happens."""
    if len(system.editions) == 1 and is_part(do_lines(system.editions[0]), lines):
        if all([harms.get(harm) == NEVER for harm in FIRST_HARMS]):
            harms.setdefault("stuck", NEVER)
            harms.setdefault("left", NEVER)


def _note_pair(harms, others):
    """Notes what goes over between a system and another one that it is under."""
    for harm in HARMS:
        if harms.get(harm) == HAPPENS:
            others.setdefault(harm, HAPPENS)
        if others.get(harm) == NEVER:
            harms.setdefault(harm, NEVER)
