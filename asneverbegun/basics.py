"""What is a number, a name or a sequence, and how numbers stand in texts."""

RESERVED = ("do", "undo", "else", "go", "sure", "cut", "back", "gone", "end", "key", "word", "ok", "no")
LETTERS = "abcdefghijklmnopqrstuvwxyz"
DIGITS = "0123456789"


def is_integer(value):
    """Tells whether any value is an integer (True and False are none)."""
    return isinstance(value, int) and not isinstance(value, bool)


def is_number(value):
    """Tells whether any value is an integer that is not below 0."""
    return is_integer(value) and value >= 0


def is_name(value):
    """Tells whether any value is a name."""
    if not isinstance(value, str) or not 1 <= len(value) <= 4:
        return False
    return all([letter in LETTERS for letter in value]) and value not in RESERVED


def is_sequence(value):
    """Tells whether any value is a list or a tuple."""
    return isinstance(value, (list, tuple))


def is_tuple(value, size):
    """Tells whether any value is a tuple with so many things."""
    return isinstance(value, tuple) and len(value) == size


def is_number_text(text):
    """Tells whether a string is a number as texts have it: at most 4 digits, no leading zero."""
    if not 1 <= len(text) <= 4 or not all([digit in DIGITS for digit in text]):
        return False
    return text == "0" or text[0] != "0"


def are_different(values):
    """Tells whether no two of these (strings, integers, tuples of such) are the same."""
    return len(set(values)) == len(values)


def are_some_of(value, words):
    """Tells whether any value is a sequence of different ones of these words."""
    if not is_sequence(value) or not all([isinstance(word, str) for word in value]):
        return False
    return are_different(value) and all([word in words for word in value])


def is_lot_of(value, words):
    """Tells whether any value is a lot of these words."""
    return isinstance(value, tuple) and are_some_of(value, words) and list(value) == sorted(value)


def lots_of(things):
    """Returns all lots of these things (which are told ascending), those with fewer things first."""
    rows = [()]
    for thing in things:
        rows = rows + [(*row, thing) for row in rows]
    return sorted(rows, key=len)


def is_part(lot, other):
    """Tells whether all things of a lot are in another one."""
    return all([thing in other for thing in lot])


def digits_of(number):
    """Returns the decimal digits of a number, as many as it has: Python itself bars very long ones."""
    parts = []
    rest = number
    while rest >= 10 ** 64:
        rest, part = divmod(rest, 10 ** 64)
        parts.append(str(part).zfill(64))
    parts.append(str(rest))
    return "".join(parts[::-1])


def number_of(digits):
    """Returns the number with these decimal digits, however many."""
    head = len(digits) - len(digits) // 64 * 64
    number = int("0" + digits[:head])
    for at in range(head, len(digits), 64):
        number = number * 10 ** 64 + int(digits[at:at + 64])
    return number
