"""The forms of stands and of answers in papers: what could stand there, whether it comes about or not."""

from asneverbegun.basics import is_integer, is_number_text, is_tuple


def is_ok_answer(world, name, value):
    """Tells whether any value is an answer `ok` with as many values as a deed tells, each of its cell's size."""
    if not isinstance(value, str):
        return False
    words = value.split(" ")
    tells = world.deed(name).tells
    if words[0] != "ok" or len(words) != len(tells) + 1 or not all([is_number_text(word) for word in words[1:]]):
        return False
    sizes = dict(world.cells)
    return all([int(word) < sizes[cell] for cell, word in zip(tells, words[1:])])


def is_stand_form(system, edition, value):
    """Tells whether any value has the form of a stand of an edition."""
    if not is_tuple(value, 4):
        return False
    line, is_back, is_open, stack = value
    forms = system.editions[edition].forms
    if not is_integer(line) or not isinstance(is_back, bool) or not isinstance(is_open, bool):
        return False
    if not -1 <= line <= len(forms) or not _is_stack(system.world, forms, stack):
        return False
    kind = forms[line][0] if 0 <= line < len(forms) else None
    if kind == "go" or is_back and kind != "back" and line != -1:
        return False
    return not is_open or _can_be_open(forms, line, is_back, stack)


def _is_stack(world, forms, value):
    return isinstance(value, tuple) and all([_is_stacked(world, forms, row) for row in value])


def _is_stacked(world, forms, value):
    """Tells whether any value is (number of a `do` line, its opposite, an answer of its deed)."""
    if not is_tuple(value, 3) or not is_integer(value[0]) or not 0 <= value[0] < len(forms):
        return False
    at, opposite, answer = value
    _, deed, known, _, _ = forms[at]
    return known is not None and isinstance(opposite, str) and opposite == known and is_ok_answer(world, deed, answer)


def _can_be_open(forms, line, is_back, stack):
    """Tells whether an entry can be open at a line."""
    if not 0 <= line < len(forms):
        return False
    if is_back:
        return len(stack) > 0 and "ahead" in forms[stack[-1][0]][3]
    return "ahead" in forms[line][3]
