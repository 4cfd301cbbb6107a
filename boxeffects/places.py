"""What rows expect and write at places: of a tape whole numbers, of a table names.

At a place lies a letter, of a table perhaps None for nothing. Dicts lead from places to what lies there.
"""


def can_lie(expected, written, place, what):
    """Tell whether this can lie at the place now; where nothing is known it is expected from then on."""
    if place in written:
        return written[place] == what
    return expected.setdefault(place, what) == what


def told_places(expected, written):
    """Return both as tuples of pairs, places ascending: what is expected of the whole is not written."""
    left = {}
    for place, what in written.items():
        if place not in expected or expected[place] != what:
            left[place] = what
    return tuple(sorted(expected.items())), tuple(sorted(left.items()))


def known_of(expected, written):
    """Return the dict of what lies behind a form at all its places; both are tuples of pairs."""
    known = dict(expected)
    known.update(dict(written))
    return known


def met_places(one, other):
    """Return the dict of what either of two tuples of pairs expects, None if unlike things."""
    met = dict(one)
    for place, what in other:
        if met.setdefault(place, what) != what:
            return None
    return met
