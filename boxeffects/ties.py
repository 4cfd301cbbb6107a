"""Ties: terms that are held together, how they are told then, and the parts that they make.

A term is a letter, or a sign for a letter: a tuple.
"""


def is_sign(term):
    """Tell whether a term is a sign, not a letter."""
    return isinstance(term, tuple)


class Ties:
    """What ties hold together: the letter of a part, or else its least sign, tells all of its terms."""

    def __init__(self):
        self._led = {}
        self._kept = True

    def tell(self, term):
        """Return the term as it is told."""
        passed = []
        while term in self._led:
            passed.append(term)
            term = self._led[term]
        for ahead in passed:
            self._led[ahead] = term
        return term

    def tell_all(self, terms):
        """Return the tuple of the terms as they are told."""
        return tuple([self.tell(term) for term in terms])

    def tie(self, one, other):
        """Hold two terms together; two unlike letters are kept by no load."""
        first = self.tell(one)
        second = self.tell(other)
        if first == second:
            return
        if not is_sign(first) and not is_sign(second):
            self._kept = False
        elif is_sign(first) and (not is_sign(second) or second < first):
            self._led[first] = second
        else:
            self._led[second] = first

    def tie_part(self, terms, letter):
        """Hold all terms of a part together, and to its letter, if it has one."""
        for term in terms[1:]:
            self.tie(terms[0], term)
        if letter is not None:
            self.tie(terms[0], letter)

    def are_kept(self):
        """Tell whether some load keeps all ties."""
        return self._kept

    def parts(self):
        """Return the tuple of the pairs (signs, letter) of all parts, ascending."""
        parts = {}
        for term in list(self._led):
            least = self.tell(term)
            if least not in parts:
                parts[least] = [least] if is_sign(least) else []
            parts[least].append(term)
        told = [(tuple(sorted(parts[least])), None if is_sign(least) else least) for least in parts]
        return tuple(sorted(told))


def ties_of(parts):
    """Return the ties that hold these parts together."""
    ties = Ties()
    for signs, letter in parts:
        ties.tie_part(signs, letter)
    return ties


def told_left(desk, ties, left):
    """Return what is left, with each term as it is told; of a tape places that have their own term are left out."""
    boxes = []
    for (name, kind), part in zip(desk[0], left[0]):
        if kind == ("tape",):
            boxes.append((part[0], told_written(name, ties, part[1])))
        else:
            boxes.append((ties.tell_all(part[0]), ties.tell_all(part[1])))
    return tuple(boxes), ties.tell_all(left[1])


def told_written(name, ties, written):
    """Return the told pairs of a tape, from pairs (place, term) in any order."""
    pairs = [(place, ties.tell(term)) for place, term in written]
    return tuple(sorted([(place, term) for place, term in pairs if term != ties.tell((name, place))]))
