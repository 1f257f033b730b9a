"""How a plan reads a log, entry by entry.

The plan is told by its forms (see lines). A stand is a tuple (line, is_back, is_open, stack). A thing is what
a host at a stand does next: a tuple (kind, text, line, answer). The kind is `over` (nothing), `write` (the
text is the entry) or `ask` (the text is the word: a deed or `undo ` and an opposite; it is asked by the line
with the number; the answer is that of the deed which is taken back, None for a deed).
"""

from asneverbegun.basics import is_name, is_number_text

OVER = ("over", None, None, None)
PLAIN = ("sure", "back", "gone", "end")


def is_entry(value):
    """Tells whether any value is an entry of a log."""
    if not isinstance(value, str):
        return False
    word, answer = split_entry(value)
    name = word.split(" ")[-1]
    if answer is None:
        return value in PLAIN or value == "cut " + name and is_name(name)
    return is_name(name) and (answer == "?" or is_answer(answer))


def is_answer(text):
    """Tells whether a string has the form of an answer."""
    words = text.split(" ")
    return text == "no" or words[0] == "ok" and all([is_number_text(word) for word in words[1:]])


def split_entry(entry):
    """Returns the word and the answer of an entry; the entry and None if it is not that of a deed."""
    words = entry.split(" ")
    if entry in PLAIN or words[0] == "cut":
        return (entry, None)
    size = 2 if words[0] == "undo" else 1
    return (" ".join(words[:size]), " ".join(words[size:]))


def settled(forms, line):
    """Returns the line to which a plan goes on by itself from a line."""
    while line < len(forms) and forms[line][0] == "go":
        line = forms[line][4]
    return line


def first_stand(forms):
    """Returns the stand with the empty log."""
    return (settled(forms, 0), False, False, ())


def cut_stand(forms, entry):
    """Returns the stand with a log that has an entry `cut K` alone; None if it is not read."""
    for at, form in enumerate(forms):
        if form[0] == "cut" and entry == "cut " + form[4]:
            return (settled(forms, at + 1), False, False, ())
    return None


def next_thing(forms, stand):
    """Returns the thing that a host does next which stands there."""
    line, is_back, _, stack = stand
    if line == -1:
        return OVER
    if line == len(forms):
        return ("write", "end", None, None)
    if is_back and not stack:
        return ("write", "gone", None, None)
    if is_back:
        at, opposite, answer = stack[-1]
        return ("ask", "undo " + opposite, at, answer)
    kind, deed, _, _, goal = forms[line]
    if kind == "do":
        return ("ask", deed, line, None)
    return ("write", "cut " + goal if kind == "cut" else kind, None, None)


def behind(forms, stand, entry):
    """Returns the stand behind one more entry; None if it is not read."""
    if stand[2]:
        return None
    word, answer = split_entry(entry)
    kind, text, at, _ = next_thing(forms, stand)
    if text != word:
        return None
    if kind == "write":
        return _behind_written(forms, stand, entry)
    if answer == "?":
        line, is_back, _, stack = stand
        return (line, is_back, True, stack) if "ahead" in forms[at][3] else None
    return _behind_answer(forms, stand, answer)


def _behind_written(forms, stand, entry):
    line, _, _, stack = stand
    if entry == "sure":
        return (settled(forms, line + 1), False, False, ())
    if entry == "back":
        return (line, True, False, stack)
    if entry == "gone":
        return (-1, True, False, ())
    return (-1, False, False, stack if entry == "end" else ())


def _behind_answer(forms, stand, answer):
    line, is_back, _, stack = stand
    if is_back:
        return (line, True, False, stack[:-1])
    opposite, goal = forms[line][2], forms[line][4]
    if answer == "no":
        return (settled(forms, line + 1 if goal is None else goal), False, False, stack)
    if opposite is not None:
        stack = (*stack, (line, opposite, answer))
    return (settled(forms, line + 1), False, False, stack)


def stand_of(forms, log):
    """Returns the stand with a log (a sequence of entries); None if it is not read."""
    current, rest = first_stand(forms), log
    if log and log[0].startswith("cut "):
        current, rest = cut_stand(forms, log[0]), log[1:]
    for entry in rest:
        if current is not None:
            current = behind(forms, current, entry)
    return current
