"""Letters, kinds, steps, rows and contents: what is one of them, and how large contents are."""

from boxeffects.errors import NoContents, NoKind, NoLetter, NoPlace

MOST_STEPS = 60
MOST_SIZE = 4000
ALPHABET = "abcdefghijklmnopqrstuvwxyz"

# Of each kind with a capacity: the greatest one, and the modes.
SIZED_KINDS = {"ring": (12, ("drop", "ignore", "fail")), "gauge": (999, ("stop", "fail"))}
PLAIN_KINDS = ("stack", "queue", "tape", "heap", "table")
# Kinds whose steps are those of all kinds.
ANY_KINDS = (
    ("stack",), ("queue",), ("ring", 1, "drop"), ("tape",), ("heap",), ("gauge", 999, "stop"), ("table",),
)

# What stands behind the first word of each step of a kind.
STEP_PARTS = {
    ("stack", "push"): ("letter",),
    ("stack", "pop"): ("letter",),
    ("queue", "put"): ("letter",),
    ("queue", "take"): ("letter",),
    ("ring", "put"): ("letter",),
    ("ring", "take"): (),
    ("tape", "left"): (),
    ("tape", "right"): (),
    ("tape", "write"): ("letter",),
    ("tape", "expect"): ("letter",),
    ("heap", "insert"): ("number",),
    ("heap", "least"): (),
    ("gauge", "add"): ("amount",),
    ("gauge", "sub"): ("amount",),
    ("table", "set"): ("name", "letter"),
    ("table", "clear"): ("name",),
    ("table", "expect"): ("name", "letter"),
    ("table", "absent"): ("name",),
}


def is_number(value):
    """Tell whether any value is an int that is neither True nor False."""
    return isinstance(value, int) and not isinstance(value, bool)


def is_between(value, least, most):
    """Tell whether any value is a number from least to most."""
    return is_number(value) and least <= value <= most


def is_letter(value):
    """Tell whether any value is a text of one to four small letters (a name is one, too)."""
    if not isinstance(value, str) or not 1 <= len(value) <= 4:
        return False
    return all(["a" <= sign <= "z" for sign in value])


def is_word(value, most=MOST_SIZE):
    """Tell whether any value is a tuple of at most so many letters."""
    if not isinstance(value, tuple) or len(value) > most:
        return False
    return all([is_letter(letter) for letter in value])


def is_ascending(items):
    """Tell whether each item of a list or tuple is above the one ahead."""
    return all([low < high for low, high in zip(items, items[1:])])


def are_pairs(value, is_key):
    """Tell whether any value is a tuple of told size of pairs (key, letter), keys ascending."""
    if not isinstance(value, tuple) or len(value) > MOST_SIZE:
        return False
    if not all([is_pair(pair, is_key) for pair in value]):
        return False
    return is_ascending([key for key, _ in value])


def is_pair(value, is_key):
    """Tell whether any value is a pair of a key and a letter."""
    return isinstance(value, tuple) and len(value) == 2 and is_key(value[0]) and is_letter(value[1])


def is_kind(value):
    """Tell whether any value is a kind."""
    # The words are compared only as texts: other values may not bear being compared.
    if not isinstance(value, tuple) or not value or not isinstance(value[0], str):
        return False
    if value[0] in PLAIN_KINDS:
        return len(value) == 1
    if value[0] not in SIZED_KINDS or len(value) != 3:
        return False
    most, modes = SIZED_KINDS[value[0]]
    return is_between(value[1], 1, most) and isinstance(value[2], str) and value[2] in modes


def is_step(kind, value):
    """Tell whether any value is a step of the kind."""
    if not is_kind(kind):
        raise NoKind(kind)
    return fits_step(kind, value)


def fits_step(kind, value):
    """Tell the same, of what is known to be a kind."""
    if not isinstance(value, tuple) or not value or not isinstance(value[0], str):
        return False
    parts = STEP_PARTS.get((kind[0], value[0]))
    if parts is None or len(value) != len(parts) + 1:
        return False
    return all([fits_part(kind, part, given) for part, given in zip(parts, value[1:])])


def fits_part(kind, part, value):
    """Tell whether any value can be this part of a step of the kind."""
    if part == "number":
        return is_between(value, -999, 999)
    if part == "amount":
        return is_between(value, 1, kind[1])
    return is_letter(value)


def is_row(kind, value):
    """Tell whether any value is a row of the kind."""
    if not is_kind(kind):
        raise NoKind(kind)
    if not isinstance(value, tuple) or len(value) > MOST_STEPS:
        return False
    return all([fits_step(kind, step) for step in value])


def is_contents(kind, value):
    """Tell whether any value is a contents of the kind."""
    if not is_kind(kind):
        raise NoKind(kind)
    name = kind[0]
    if name == "gauge":
        return is_between(value, 0, kind[1])
    if name == "ring":
        return is_word(value, kind[1])
    if name == "tape":
        return is_tape_contents(value)
    if name == "heap":
        return is_heap_contents(value)
    if name == "table":
        return are_pairs(value, is_letter)
    return is_word(value)


def is_tape_contents(value):
    """Tell whether any value is a pair (pairs, rest) in which no place has the letter of the rest."""
    if not isinstance(value, tuple) or len(value) != 2:
        return False
    pairs, rest = value
    if not are_pairs(pairs, is_number) or not is_letter(rest):
        return False
    return all([letter != rest for _, letter in pairs])


def is_heap_contents(value):
    """Tell whether any value is a tuple of numbers, none less than the one ahead."""
    if not isinstance(value, tuple) or len(value) > MOST_SIZE:
        return False
    if not all([is_between(number, -1000, 1000) for number in value]):
        return False
    return all([low <= high for low, high in zip(value, value[1:])])


def size_of(kind, contents):
    """Return how many letters, numbers or pairs a contents has, of a gauge the number itself."""
    if not is_contents(kind, contents):
        raise NoContents(contents)
    return measured(kind, contents)


def measured(kind, contents):
    """Return the same of a contents of any size."""
    if kind[0] == "gauge":
        return contents
    if kind[0] == "tape":
        return len(contents[0])
    return len(contents)


def under_head(contents, place):
    """Return the letter of a tape at a place."""
    if not is_tape_contents(contents):
        raise NoContents(contents)
    if not is_number(place):
        raise NoPlace(place)
    pairs, rest = contents
    return dict(pairs).get(place, rest)


def new_letter(letters):
    """Return the first text of small letters, shorter ones ahead, that is not among the letters."""
    if not isinstance(letters, (list, tuple)) or len(letters) > MOST_SIZE:
        raise NoLetter(None)
    for letter in letters:
        if not is_letter(letter):
            raise NoLetter(letter)
    known = set(letters)
    number = 0
    while letter_number(number) in known:
        number += 1
    return letter_number(number)


def letter_number(number):
    """Return the text with this number, from 0, of all texts of small letters, shorter ones ahead."""
    text = ""
    while number >= 0:
        text = ALPHABET[number % 26] + text
        # Less 1, as no text has a sign for nothing: behind z comes aa.
        number = number // 26 - 1
    return text
