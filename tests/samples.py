"""Systems for tests: those of the document, and small ones that are made by a seed."""

import random

from asneverbegun.errors import Refused, WorkError
from asneverbegun.plans import Plan
from asneverbegun.stage import play
from asneverbegun.systems import System
from asneverbegun.worlds import Deed, World

TEXT = (
    "cells a 2, m 3\nkeys cut word\nstart 0 0\nstreet -\ndeed book: needs a 0, a to 1\ndeed free: a to 0\n"
    "deed pay: m by 1\ndeed rest: m by 2\nedition\ndo book undo free else 3\ndo pay undo rest\nend\nback"
)
BARE = System.read(TEXT)
KEYED = System.read(TEXT.replace("free else", "free key else").replace("undo rest", "undo rest key"))
NEWER = System.read(str(KEYED) + "\nedition\ndo book undo free key else 2\nend\nback")
ONE = System.read("cells m 2\nkeys cut word\nstart 0\nstreet -\ndeed pay: m by 1\nedition\ndo pay key")
LIGHT = System.read(
    "cells a 2\nkeys cut word\nstart 0\nstreet -\ndeed set: a to 1\ndeed clr: a to 0\nedition\ndo set undo clr\nback"
)


def made(cells, deeds, *editions, starts=None, street="-", keys="cut word"):
    """A system by short texts: the deeds are separated by `;`, the lines of an edition by `/`."""
    size = cells.count(",") + 1
    lines = ["cells " + cells, "keys " + keys]
    lines += ["start " + start for start in starts or [" ".join(["0"] * size)]]
    lines += ["street " + street] + ["deed " + deed.strip() for deed in deeds.split(";")]
    for edition in editions:
        lines += ["edition"] + edition.split("/")
    return System.read("\n".join(lines))


PAY = made("m 3", "pay: m by 1", "do pay")
SET = made("a 2", "set: needs a 0, a to 1; clr: a to 0", "do set", street="clr", starts=["0", "1"])
OTHER = "set: needs a 0, a to 1; put: a to 1; clr: a to 0; none: nothing"


def random_deed(rng, name, cells, is_opposite=False, tells=()):
    needs = [(cell, rng.randrange(size)) for cell, size in cells if rng.random() < 0.3]
    sets = []
    for cell, size in cells:
        if is_opposite and cell in tells and rng.random() < 0.8:
            sets.append((cell, "back", 0))
        elif rng.random() < 0.5:
            how = rng.choice(["to", "by"])
            sets.append((cell, how, rng.randrange(1 if how == "by" else 0, size)))
    told = [rng.choice(cells)[0]] if rng.random() < 0.4 else []
    return Deed(name, needs, sets, told)


def do_line(rng, goals, deeds, opposites, gears):
    name = rng.choice(deeds)
    line = "do " + name
    if rng.random() < 0.6:
        line += " undo " + rng.choice(opposites[name])
    for word in ("ahead", "claim", "key"):
        if rng.random() < gears.get(word, 0.3):
            line += " " + word
    if goals and rng.random() < 0.4:
        line += " else %d" % rng.choice(goals)
    return line


def random_line(rng, size, deeds, opposites, gears, cuts):
    kind = rng.choice(["do"] * 6 + ["go", "sure", "cut", "back", "back", "end"])
    if kind == "do":
        return do_line(rng, range(size + 1), deeds, opposites, gears)
    if kind == "go":
        return "go %d" % rng.randrange(size + 1)
    if kind == "cut":
        return "cut " + rng.choice(cuts)
    return kind


def random_plan(rng, size, deeds, opposites, gears, cuts=("k", "l")):
    while True:
        try:
            return Plan([random_line(rng, size, deeds, opposites, gears, cuts) for _ in range(size)])
        except WorkError:
            pass


def changed_plan(rng, plan, deeds, opposites, gears):
    """A plan that is like another one, but for one line or two."""
    while True:
        lines = list(plan.lines)
        for _ in range(rng.choice([1, 1, 2])):
            lines[rng.randrange(len(lines))] = random_line(rng, len(lines), deeds, opposites, gears, ("k", "l"))
        if rng.random() < 0.2:
            lines.pop()
        try:
            return Plan(lines)
        except WorkError:
            pass


def ring_plan(rng, deeds, opposites, gears):
    """A plan that goes round by a cut, again and again."""
    lines = []
    for _ in range(rng.choice([1, 1, 2, 3])):
        lines.append(do_line(rng, (), deeds, opposites, gears))
    lines.append(rng.choice(["cut k", "cut k", "cut k\nsure", "sure\ncut k"]))
    lines.append(rng.choice(["go 0", "go 0", do_line(rng, (), deeds, opposites, gears), "back"]))
    return Plan("\n".join(lines).split("\n"))


def back_plan(rng, deeds, opposites, gears):
    """A plan that does something, and takes it back."""
    size = rng.choice([1, 2, 2, 3])
    lines = [do_line(rng, range(at + 1, size + 1), deeds, opposites, gears) for at in range(size)]
    if rng.random() < 0.2:
        lines[rng.randrange(size)] = "sure"
    return Plan(lines + ["back"])


def like_plan(rng, plan, deeds, opposites, gears):
    """A plan that reads much of what another one writes: it has other opposites and gears."""
    lines = []
    for line in plan.lines:
        words = line.split()
        if words[0] == "do" and rng.random() < 0.6:
            line = do_line(rng, (), [words[1]], opposites, gears)
            if "else" in words:
                line += " else " + words[-1]
        lines.append(line)
    if rng.random() < 0.3:
        at = rng.randrange(len(lines))
        lines[at] = random_line(rng, len(lines), deeds, opposites, gears, ("k", "l"))
    try:
        return Plan(lines)
    except WorkError:
        return plan


def random_system(seed, style=None, size=3, editions=None, tags=None, cells=None, street=None, gears=None):
    """Some system; the same one for the same arguments."""
    rng = random.Random(seed)
    gears = {} if gears is None else gears
    if cells is None:
        cells = rng.choice([[("a", 2)], [("a", 3)], [("a", 2), ("m", 2)], [("a", 2), ("m", 3)]])
    deeds = [random_deed(rng, name, cells) for name in ("d", "e")]
    opposites, others = {}, []
    for deed in deeds:
        others.append(random_deed(rng, "o" + deed.name, cells, True, deed.tells))
        opposites[deed.name] = ["o" + deed.name, rng.choice(["d", "e"])]
    shared = random_deed(rng, "u", cells)
    for rows in opposites.values():
        rows.append("u")
    names = [deed.name for deed in deeds]
    if style is None:
        style = rng.choice(["any", "ring", "back"])
    if style == "ring":
        plans = [ring_plan(rng, names, opposites, gears)]
    elif style == "back":
        plans = [back_plan(rng, names, opposites, gears)]
    else:
        plans = [random_plan(rng, rng.randrange(1, size + 1), names, opposites, gears)]
    if (rng.choice([1, 2]) if editions is None else editions) == 2:
        maker = rng.choice([like_plan, like_plan, changed_plan])
        plans.append(maker(rng, plans[0], names, opposites, gears))
        if rng.random() < 0.3:
            plans.reverse()
    world = World(cells, deeds + others + [shared])
    scenes = world.scenes()
    starts = rng.sample(scenes, rng.choice([1, 1, 2]))
    if street is None:
        street = rng.sample(["d", "e", "u"], rng.choice([0, 0, 1, 1, 2]))
    if tags is None:
        tags = rng.choice([[], ["cut"], ["word"], ["cut", "word"], ["cut", "word"]])
    return System(world, plans, starts, street, tags)


def random_history(rng, system, size, wild=1.0):
    """A start, an edition and so many events that are possible; events that meet a harm are taken as `wild` tells.

    Nothing comes behind an event that meets `stale`.
    """
    start, edition = rng.choice(system.starts), rng.randrange(len(system.editions))
    events = []
    while len(events) < size:
        choices = possible(system, start, edition, events)
        going = [event for event in choices if event in ("next", "write")]
        late = [event for event in choices if event.startswith("late")]
        event = rng.choice(choices + 3 * going + 2 * late) if choices else None
        if event is None:
            break
        met = [harm for at, harm in play(system, start, edition, events + [event]).met if at == len(events)]
        if not met or rng.random() < wild:
            events.append(event)
        if "stale" in met or met and rng.random() < 0.5:
            break
    return start, edition, events


def possible(system, start, edition, events):
    """All events that are possible behind others."""
    choices = ["next", "write"] + ["over %d" % number for number in range(len(system.editions))]
    choices += ["street " + name for name in system.street]
    choices += ["late %d" % number for number in range(len(events))]
    found = []
    for event in choices:
        try:
            play(system, start, edition, events + [event])
            found.append(event)
        except Refused:
            pass
    return found
