"""The forms of the lines of a plan.

A form is a tuple (kind, deed, opposite, gear, goal): the kind is the first word of the line; the goal is
the number behind `go` and `else`, or the name behind `cut`. What a line does not have is None (the gear ()).
"""

from asneverbegun.basics import are_different, is_name, is_number_text, is_sequence

GEAR = ("ahead", "claim", "key")


def read_line(text):
    """Returns the form of a line, or None if it has none."""
    words = text.split(" ")
    kind = words[0]
    if kind == "do" and len(words) > 1:
        return _read_do(words[1:])
    if kind in ("sure", "back", "end") and len(words) == 1:
        return (kind, None, None, (), None)
    if kind == "go" and len(words) == 2 and is_number_text(words[1]):
        return ("go", None, None, (), int(words[1]))
    if kind == "cut" and len(words) == 2 and is_name(words[1]):
        return ("cut", None, None, (), words[1])
    return None


def _read_do(words):
    """Returns the form of a line `do`, of which these are the further words."""
    deed, words = words[0], words[1:]
    opposite, goal, gear = None, None, []
    if len(words) > 1 and words[0] == "undo":
        opposite, words = words[1], words[2:]
    for word in GEAR:
        if words and words[0] == word:
            gear.append(word)
            words = words[1:]
    if len(words) == 2 and words[0] == "else" and is_number_text(words[1]):
        goal, words = int(words[1]), []
    if words or not is_name(deed) or opposite is not None and not is_name(opposite):
        return None
    return ("do", deed, opposite, tuple(gear), goal)


def line_text(form):
    """Returns the line `do` that has a form."""
    _, deed, opposite, gear, goal = form
    words = ["do", deed]
    if opposite is not None:
        words.extend(["undo", opposite])
    words.extend(gear)
    if goal is not None:
        words.extend(["else", str(goal)])
    return " ".join(words)


def read_lines(value):
    """Returns the forms of the lines of a plan, or None if any value is not such lines."""
    if not is_sequence(value) or len(value) == 0 or not all([isinstance(line, str) for line in value]):
        return None
    forms = [read_line(line) for line in value]
    if any([form is None for form in forms]):
        return None
    cuts = [form[4] for form in forms if form[0] == "cut"]
    goals = [form[4] for form in forms if form[0] in ("do", "go") and form[4] is not None]
    if not are_different(cuts) or any([goal > len(forms) for goal in goals]) or _has_ring(forms):
        return None
    return tuple(forms)


def following(forms, at):
    """Returns the numbers of the lines to which a host can go from a line, by any answers."""
    kind, goal = forms[at][0], forms[at][4]
    if kind in ("back", "end"):
        return []
    if kind == "go":
        return [goal]
    if kind == "do" and goal is not None:
        return [at + 1, goal]
    return [at + 1]


def _has_ring(forms):
    """Tells whether some way leads from a line to the same line again without passing a cut."""
    is_ending = [form[0] == "cut" for form in forms] + [True]
    # In each round at least one more line is found from which all ways end, or the rest has a ring.
    for _ in forms:
        for at in range(len(forms)):
            if all([is_ending[there] for there in following(forms, at)]):
                is_ending[at] = True
    return not all(is_ending)
