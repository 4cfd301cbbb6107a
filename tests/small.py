"""What the tests share: small words, rows and contents, and values that are nothing at all."""

from itertools import combinations_with_replacement, product

from boxeffects.forms import form_of


class Everything:
    """An object that says of itself that it equals whatever it is compared with."""

    def __eq__(self, other):
        return True

    def __hash__(self):
        return 0


# None of these is a letter, a kind, a row, a contents that is not a number, a form, or a number.
ODD = (True, False, 1.0, "", "A", "abcde", b"a", [], {}, set(), object(), (None,), ((),), ("a", 1), ["a"],
       Everything(), (Everything(),), (Everything(), Everything()), (Everything(), Everything(), Everything()))


def words(most, letters=("a", "b")):
    """All words of up to so many letters."""
    return [word for many in range(most + 1) for word in product(letters, repeat=many)]


def rows(steps, most):
    """All rows of up to so many of these steps."""
    return [row for many in range(most + 1) for row in product(steps, repeat=many)]


STACK_STEPS = (("push", "a"), ("push", "b"), ("pop", "a"), ("pop", "b"))
QUEUE_STEPS = (("put", "a"), ("put", "b"), ("take", "a"), ("take", "b"))
RING_STEPS = (("put", "a"), ("put", "b"), ("take",))
LEAST = ("least",)
HEAP_STEPS = (("insert", -1), ("insert", 0), ("insert", 2), LEAST)
TABLE_STEPS = (("set", "m", "x"), ("set", "n", "y"), ("clear", "n"), ("expect", "n", "x"), ("expect", "m", "x"),
               ("expect", "m", "y"), ("absent", "n"), ("absent", "m"))
TAPE_STEPS = (("left",), ("right",), ("write", "a"), ("write", "b"), ("expect", "a"), ("expect", "b"))


def tapes(places, letters=("a", "b", "c")):
    """All contents of a tape with these letters at these places, and each of them as the rest."""
    found = []
    for rest in letters:
        for lying in product(letters, repeat=len(places)):
            pairs = tuple([(place, letter) for place, letter in zip(places, lying) if letter != rest])
            found.append((pairs, rest))
    return found


def tables(names, letters=("x", "y")):
    """All contents of a table with nothing or one of these letters at these names."""
    return [
        tuple((name, letter) for name, letter in zip(names, lying) if letter is not None)
        for lying in product((None, *letters), repeat=len(names))
    ]


def inserts(*numbers):
    """The steps that insert these numbers."""
    return tuple(("insert", number) for number in numbers)


def gauge_steps(capacity):
    """All steps of a gauge of this capacity."""
    return [(verb, amount) for verb in ("add", "sub") for amount in range(1, capacity + 1)]


# Of each kind some boxes; their steps, few enough to go through all short rows of them; and contents that part
# all short rows that are not alike.
ALL_KINDS = (("stack",), ("queue",), ("ring", 2, "drop"), ("ring", 2, "ignore"), ("ring", 3, "fail"), ("tape",),
             ("heap",), ("gauge", 3, "stop"), ("gauge", 3, "fail"), ("table",))
KIND_STEPS = {"stack": STACK_STEPS, "queue": QUEUE_STEPS, "ring": RING_STEPS, "tape": TAPE_STEPS, "heap": HEAP_STEPS,
              "gauge": tuple(gauge_steps(3)), "table": TABLE_STEPS}
KIND_CONTENTS = {
    "stack": words(4), "queue": words(4), "ring": words(3, ("p", "q")), "tape": tapes((-2, -1, 0, 1, 2), ("a", "b")),
    "heap": [heap for many in range(4) for heap in combinations_with_replacement((-2, -1, 0, 1, 2, 3), many)],
    "gauge": [0, 1, 2, 3], "table": tables("mno"),
}
SOME_CONTENTS = {kind: [part for part in KIND_CONTENTS[kind[0]] if kind[0] != "ring" or len(part) <= kind[1]]
                 for kind in ALL_KINDS}
WRONG_KINDS = (None, "stack", [], ["stack"], ("stack", 1), ("ring", 13, "drop"), ("ring", 0, "drop"), ("ring", 2, "stop"),
               ("gauge", 1000, "stop"), ("gauge", 3, "drop"), ("ring", True, "fail"), ("box",), (), ("ring", 2), True)


def small_rows(kind, most):
    """All rows of the kind of up to so many of a few steps."""
    return rows(KIND_STEPS[kind[0]], most)


def forms_of_rows(kind, most):
    """The forms of all rows of the kind of up to so many of a few steps, each once."""
    return list({form_of(kind, row): row for row in small_rows(kind, most)})


def raised(call, *given, **named):
    """The name of the error that a call raises, with what it tells of it."""
    try:
        call(*given, **named)
    except (ValueError, OverflowError) as error:
        return type(error).__name__, error.told
    return None


TOO_MANY = ("TooMany", 4000)
