"""Books: systems by their names, and claims about them that hold without a search."""

from asneverbegun.basics import are_different, is_integer, is_name, is_sequence, is_tuple
from asneverbegun.claims import FORMS, claim_text, is_claim, read_claim
from asneverbegun.errors import InvalidBook, InvalidText, NoLine, NoName
from asneverbegun.evidence import claim_holds
from asneverbegun.systems import System, TextReader, system_of

HEAD = "system "


class Book:
    """Pairs of a name and a system, and claims about these names."""

    def __init__(self, systems=(), claims=()):
        if not _are_systems(systems):
            raise InvalidBook("systems")
        if not _are_claims(claims, [name for name, _ in systems]):
            raise InvalidBook("claims")
        self.systems = tuple(systems)
        self.claims = tuple(claims)

    @classmethod
    def read(cls, text):
        """Returns the book with a text."""
        if not isinstance(text, str):
            raise InvalidText(0)
        lines = text.split("\n") if text != "" else []
        rows, at = _read_systems(lines)
        claims = [_read_line(lines, number) for number in range(at, len(lines))]
        return cls([(name, system_of(parts)) for name, parts in rows], claims)

    def __len__(self):
        return len(self.claims)

    def __eq__(self, other):
        return isinstance(other, Book) and str(self) == str(other)

    def __str__(self):
        return "\n".join(_text_lines(self))

    def of_name(self, name):
        """Returns the system with a name."""
        for word, system in self.systems:
            if word == name:
                return system
        raise NoName(name)

    def with_system(self, name, system):
        """Returns the book with one more system at its end."""
        return Book([*self.systems, (name, system)], self.claims)

    def with_claim(self, claim):
        """Returns the book with one more claim at its end."""
        return Book(self.systems, [*self.claims, claim])

    def with_book(self, other):
        """Returns the book with those systems and claims of another one that it does not have."""
        there = {name: system for name, system in self.systems}
        for name, system in other.systems:
            if name in there and there[name] != system:
                raise InvalidBook("systems")
        systems = [row for row in other.systems if row[0] not in there]
        texts = [claim_text(claim) for claim in self.claims]
        claims = [claim for claim in other.claims if claim_text(claim) not in texts]
        return Book([*self.systems, *systems], [*self.claims, *claims])

    def without(self, at):
        """Returns the book without the claim with a number."""
        if not _is_number_of_claim(self, at):
            raise NoLine(at)
        return Book(self.systems, [*self.claims[:at], *self.claims[at + 1:]])


def holds(book, at):
    """Tells whether the claim with a number holds."""
    if not _is_number_of_claim(book, at):
        raise NoLine(at)
    claim = book.claims[at]
    return claim_holds(book.of_name(claim[1]), claim)


def failing(book):
    """Returns the lot of the numbers of the claims that do not hold."""
    return tuple([at for at in range(len(book.claims)) if not holds(book, at)])


def has_claim(book, claim):
    """Tells whether a book has a claim with the same text."""
    return claim_text(claim) in [claim_text(row) for row in book.claims]


def _is_number_of_claim(book, value):
    return is_integer(value) and 0 <= value < len(book.claims)


def _are_systems(value):
    if not is_sequence(value) or not all([is_tuple(row, 2) for row in value]):
        return False
    if not all([is_name(name) and isinstance(system, System) for name, system in value]):
        return False
    return are_different([name for name, _ in value])


def _are_claims(value, names):
    return is_sequence(value) and all([is_claim(claim) and claim[1] in names for claim in value])


def _text_lines(book):
    lines = []
    for name, system in book.systems:
        lines.append(HEAD + name)
        lines.append(str(system))
    lines.extend([claim_text(claim) for claim in book.claims])
    return lines


def _read_systems(lines):
    """Returns pairs of a name and the parts of a system, and the number of the first line behind all systems."""
    rows, at = [], 0
    while at < len(lines) and lines[at].startswith(HEAD):
        name = lines[at][len(HEAD):]
        if not is_name(name):
            raise InvalidText(at)
        end = at + 1
        while end < len(lines) and not _begins_anew(lines[end]):
            end += 1
        rows.append((name, TextReader(lines[at + 1:end], at + 1).parts()))
        at = end
    return (rows, at)


def _begins_anew(line):
    """Tells whether a line can't belong to the text of a system, since it begins another one, or tells a claim."""
    return line.startswith(HEAD) or any([line.startswith(word + " ") for word in FORMS])


def _read_line(lines, number):
    """Returns the claim in a line, by its number."""
    try:
        return read_claim(lines[number])
    except InvalidText:
        raise InvalidText(number)
