"""Desks: commands about a book and a live stage, and what they answer."""

from asneverbegun.books import Book, failing, has_claim, holds
from asneverbegun.claims import read_claim
from asneverbegun.commands import read_command
from asneverbegun.errors import InvalidCommand, NoName
from asneverbegun.harms import harms, meets, story
from asneverbegun.knowledge import known
from asneverbegun.live import Live
from asneverbegun.systems import System


def _say_system(desk, name, text):
    system = System.read(text)
    desk.book = desk.book.with_system(name, system)
    return str(len(system.editions))


def _say_claim(desk, text):
    desk.book = desk.book.with_claim(read_claim(text))
    return "holds" if holds(desk.book, len(desk.book) - 1) else "fails"


def _say_book(desk, text):
    desk.book = Book.read(text)
    return str(len(failing(desk.book)))


def _say_write(desk):
    text = str(desk.book)
    return text.replace("\n", " ; ") if text != "" else "empty"


def _say_live(desk, name, start, edition):
    system = desk.book.of_name(name)
    if edition >= len(system.editions):
        raise InvalidCommand()
    desk.live = Live(system, start, edition)
    desk.said = (name, start, edition)
    return str(len(system.editions))


def _say_do(desk, event):
    return _listed(desk.live.do(event), " ", "fine")


def _say_undo(desk):
    return "undone" if desk.live.undo() else "nothing"


def _say_scene(desk):
    return " ".join([str(value) for value in desk.live.played.scene])


def _say_log(desk):
    return _listed(desk.live.played.log, ", ", "empty")


def _say_harms(desk, name):
    return _listed(harms(desk.book.of_name(name)), " ", "none")


def _say_meets(desk, name, harm):
    lots = meets(desk.book.of_name(name), harm)
    return _listed([_listed(lot, "+", "nothing") for lot in lots], " ", "never")


def _say_story(desk, name, harm):
    row = story(desk.book.of_name(name), harm)
    if row is None:
        return "never"
    start, edition, events = row
    _put_in(desk, ("story", name, harm, start, edition, events))
    return ", ".join(events)


def _say_keep(desk):
    name, start, edition = desk.said
    if desk.book.of_name(name) != desk.live.system:
        raise NoName(name)
    events, met = desk.live.events, desk.live.played.met
    many = len(desk.book)
    if len(met) > 0 and met[0][0] == len(events) - 1:
        for _, harm in met:
            _put_in(desk, ("story", name, harm, start, edition, events))
    return str(len(desk.book) - many)


def _say_known(desk, name):
    return _listed([f"{harm} {word}" for harm, word in known(desk.book, name)], ", ", "nothing")


def _say_check(desk):
    return _listed([str(at) for at in failing(desk.book)], " ", "all hold")


def _say_drop(desk, at):
    desk.book = desk.book.without(at)
    return str(len(desk.book))


def _put_in(desk, claim):
    """Puts a claim into the book, if it is not there."""
    if not has_claim(desk.book, claim):
        desk.book = desk.book.with_claim(claim)


def _listed(words, sign, otherwise):
    """Returns words joined by a sign, or another word if there are none."""
    return otherwise if len(words) == 0 else sign.join(words)


ACTIONS = {
    "system": _say_system,
    "claim": _say_claim,
    "book": _say_book,
    "write": _say_write,
    "live": _say_live,
    "do": _say_do,
    "undo": _say_undo,
    "scene": _say_scene,
    "log": _say_log,
    "harms": _say_harms,
    "meets": _say_meets,
    "story": _say_story,
    "keep": _say_keep,
    "known": _say_known,
    "check": _say_check,
    "drop": _say_drop,
}


class Desk:
    """A book and a live stage. `said` tells by which words the stage was asked for: (name, start, edition)."""

    def __init__(self):
        self.book = Book()
        self.live = None
        self.said = None

    def say(self, command):
        """Executes a command; returns its answer."""
        things = read_command(command)
        if self.live is None and things[0] in ("do", "undo", "scene", "log", "keep"):
            raise InvalidCommand()
        action = ACTIONS[things[0]]
        rest = things[1:]
        return action(self, *rest)
