"""What rows expect and write at places: of a tape whole numbers, of a table names.

At a place lies a letter, of a table perhaps None for nothing. Dicts lead from places to what lies there.
"""


def can_lie(expected, written, place, what):
    """Tell whether this can lie at the place now; where nothing is known it is expected from then on."""
    if place in written:
        return written[place] == what
    return expected.setdefault(place, what) == what


def told_places(expected, written):
    """Return both as tuples of pairs, places ascending: what is expected of the whole is not written."""
    left = {}
    for place, what in written.items():
        if place not in expected or expected[place] != what:
            left[place] = what
    return tuple(sorted(expected.items())), tuple(sorted(left.items()))


def known_of(expected, written):
    """Return the dict of what lies behind a form at all its places; both are tuples of pairs."""
    known = dict(expected)
    known.update(dict(written))
    return known


def met_places(one, other):
    """Return the dict of what either of two tuples of pairs expects, None if unlike things."""
    met = dict(one)
    for place, what in other:
        if met.setdefault(place, what) != what:
            return None
    return met


def less_places(one, other):
    """Tell whether of two pairs (expected, written) the other one does all that the first one does."""
    wanted = dict(one[0])
    for place, what in other[0]:
        if place not in wanted or wanted[place] != what:
            return False
    # Where neither writes and nothing is expected it stays as it was by both.
    return known_of(one[0], one[1]) == known_of(one[0], other[1])


def has_places_back(expected, written):
    """Tell whether it is known what lay at each written place."""
    wanted = dict(expected)
    return all([place in wanted for place, _ in written])


def are_apart(expected, written):
    """Tell whether no place at which something is expected is written."""
    wanted = dict(expected)
    return not any([place in wanted for place, _ in written])


def back_places(expected, written):
    """Return the pair (expected, written) that leads back, if there is one."""
    wanted = dict(expected)
    known = known_of(expected, written)
    return tuple(sorted(known.items())), tuple([(place, wanted[place]) for place, _ in written])
