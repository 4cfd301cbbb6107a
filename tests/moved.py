"""What the tests of moved rows share: desks, their steps, rows and loads, drawn alike at each run."""

import random
from itertools import product

from boxeffects.signs import depths_of

STACK, QUEUE, TAPE = ("stack",), ("queue",), ("tape",)
DROP, FAIL = ("ring", 2, "drop"), ("ring", 2, "fail")
DESKS = (
    ((("s", STACK),), ("a",)),
    ((("q", QUEUE),), ("a", "b")),
    ((("t", TAPE),), ("a", "b")),
    ((("d", DROP),), ("a", "b")),
    ((("f", FAIL),), ("a",)),
    ((("q", QUEUE), ("s", STACK)), ("a",)),
    # A box and a register may be called alike.
    ((("d", DROP), ("t", TAPE)), ("a", "t")),
    ((("d", ("ring", 1, "drop")), ("e", DROP)), ("a",)),
    ((("f", FAIL), ("s", STACK), ("t", TAPE)), ("a", "b")),
    ((("s", STACK), ("t", TAPE)), ()),
)
WRONG_DESKS = (None, (), DESKS[0][0], list(DESKS[0]), ((("h", ("heap",)),), ()), (DESKS[5][0][::-1], ()), "ab", True,
               ((("g", ("ring", 2, "ignore")),), ()))


def box_steps(name, kind, letters):
    """The plain steps of a box with these letters."""
    if kind[0] == "ring":
        return [(name, ("put", letter)) for letter in letters] + [(name, ("take",))]
    if kind[0] == "tape":
        moves = [(name, ("left",)), (name, ("right",))]
        return moves + [(name, (verb, letter)) for verb in ("write", "expect") for letter in letters]
    verbs = ("push", "pop") if kind[0] == "stack" else ("put", "take")
    return [(name, (verb, letter)) for verb in verbs for letter in letters]


def moved_steps(desk, letters="xy"):
    """Moved steps of a desk with these letters, those that move letters most often."""
    steps = []
    for name, kind in desk[0]:
        steps += box_steps(name, kind, letters)
        steps += [(name, ("look" if kind[0] == "tape" else "draw", own)) for own in desk[1]] * 2
        steps += [(name, ("lay", own)) for own in desk[1]] * 2
    for one in desk[1]:
        steps += [("is", one, letter) for letter in letters]
        steps += [(verb, one, other) for verb in ("copy", "same") for other in desk[1]]
    return steps


def some_row(draw, desk, most):
    """A moved row of up to so many steps."""
    steps = moved_steps(desk)
    return tuple(draw.choice(steps) for _ in range(draw.randint(0, most)))


def near_row(draw, desk, row):
    """A row that is nearly this one."""
    steps = list(row)
    place = draw.randint(0, len(steps))
    if draw.random() < 0.5:
        steps.insert(place, draw.choice(moved_steps(desk)))
    elif steps[place:]:
        steps.pop(place)
    if len(steps) > 1 and draw.random() < 0.5:
        place = draw.randrange(len(steps) - 1)
        steps[place:place + 2] = steps[place + 1], steps[place]
    return tuple(steps)


def some_contents(draw, kind, letters, most):
    """Some contents of a kind with these letters, words of up to so many."""
    if kind[0] == "tape":
        rest = draw.choice(letters)
        lying = [(place, draw.choice(letters)) for place in range(-3, 4)]
        return tuple(pair for pair in lying if pair[1] != rest), rest
    most = kind[1] if kind[0] == "ring" else most
    return tuple(draw.choice(letters) for _ in range(draw.randint(0, most)))


def some_load(draw, desk, letters="xyz", most=4):
    """Some load of a desk with these letters."""
    contents = tuple(some_contents(draw, kind, letters, most) for _, kind in desk[0])
    return contents, tuple(draw.choice(letters) for _ in desk[1])


def some_loads(draw, desk, many):
    """Loads of few and of more letters."""
    return [some_load(draw, desk, letters) for letters in ("x", "xy", "xyz") for _ in range(many)]


def depths_for(draw, desk, row):
    """Depths that are enough for a row, perhaps more than enough."""
    most = [1 if kind[0] in ("stack", "queue") else 0 for _, kind in desk[0]]
    return tuple(depth + draw.randint(0, more) for depth, more in zip(depths_of(desk, row), most))


def cases(seed, many, most):
    """So many triples of a desk, a row of up to so many steps, and depths for it, and what draws more of them."""
    draw = random.Random(seed)
    for number in range(many):
        desk = DESKS[number % len(DESKS)]
        row = some_row(draw, desk, draw.randint(0, most))
        yield draw, desk, row, depths_for(draw, desk, row)


def all_words(letters, least, most):
    """All words of at least and at most so many letters."""
    return [word for many in range(least, most + 1) for word in product(letters, repeat=many)]
