"""What the tests share: small words, rows and contents, and values that are nothing at all."""

from itertools import product


class Everything:
    """An object that says of itself that it equals whatever it is compared with."""

    def __eq__(self, other):
        return True

    def __hash__(self):
        return 0


# None of these is a letter, a kind, a row, a contents that is not a number, a form, or a number.
ODD = (True, False, 1.0, "", "A", "abcde", b"a", [], {}, set(), object(), (None,), ((),), ("a", 1), ["a"],
       Everything(), (Everything(),), (Everything(), Everything()), (Everything(), Everything(), Everything()))


def words(most, letters=("a", "b")):
    """All words of up to so many letters."""
    return [word for many in range(most + 1) for word in product(letters, repeat=many)]


def rows(steps, most):
    """All rows of up to so many of these steps."""
    return [row for many in range(most + 1) for row in product(steps, repeat=many)]


STACK_STEPS = (("push", "a"), ("push", "b"), ("pop", "a"), ("pop", "b"))
QUEUE_STEPS = (("put", "a"), ("put", "b"), ("take", "a"), ("take", "b"))
RING_STEPS = (("put", "a"), ("put", "b"), ("take",))
TAPE_STEPS = (("left",), ("right",), ("write", "a"), ("write", "b"), ("expect", "a"), ("expect", "b"))


def tapes(places, letters=("a", "b", "c")):
    """All contents of a tape with these letters at these places, and each of them as the rest."""
    found = []
    for rest in letters:
        for lying in product(letters, repeat=len(places)):
            pairs = tuple([(place, letter) for place, letter in zip(places, lying) if letter != rest])
            found.append((pairs, rest))
    return found


def raised(call, *given, **named):
    """The name of the error that a call raises, with what it tells of it."""
    try:
        call(*given, **named)
    except (ValueError, OverflowError) as error:
        return type(error).__name__, error.told
    return None


TOO_MANY = ("TooMany", 4000)
