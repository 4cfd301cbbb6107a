"""Rows done with signs: what a moved row does in a class, term by term."""

from boxeffects.signs import done_outright
from boxeffects.ties import Ties, told_left


def open_boxes(desk, depths, cls):
    """Return the dict from the names of stacks and queues to whether they are open in the class."""
    opens = {}
    for (name, kind), depth, number in zip(desk[0], depths, cls):
        if kind[0] in ("stack", "queue"):
            opens[name] = number == depth
    return opens


class Signed:
    """Boxes and registers with terms in them, at first the signs of a class, and the ties of what is done."""

    def __init__(self, desk, depths, cls):
        self._desk = desk
        self._kinds = dict(desk[0])
        self._opens = open_boxes(desk, depths, cls)
        # Of a stack the top, of a queue or a ring the front comes first; behind a rest stands what was put there.
        self._fronts = {name: [(name, at + 1) for at in range(number)] for (name, _), number in zip(desk[0], cls)}
        self._backs = {name: [] for name, _ in desk[0]}
        self._heads = {name: 0 for name, _ in desk[0]}
        self._written = {name: {} for name, _ in desk[0]}
        self._letters = {name: (name,) for name in desk[1]}
        self._ties = Ties()

    def do(self, step):
        """Do a moved step that does not fail outright."""
        if len(step) == 3:
            self._do_registers(step)
        elif self._kinds[step[0]] == ("tape",):
            self._do_tape(step[0], step[1])
        else:
            self._do_word(step[0], step[1])

    def _do_registers(self, step):
        verb, first, second = step
        if verb == "copy":
            self._letters[second] = self._letters[first]
        else:
            self._ties.tie(self._letters[first], second if verb == "is" else self._letters[second])

    def _do_tape(self, name, act):
        verb = act[0]
        head = self._heads[name]
        if verb == "left":
            self._heads[name] = head - 1
        elif verb == "right":
            self._heads[name] = head + 1
        elif verb == "write":
            self._written[name][head] = act[1]
        elif verb == "lay":
            self._written[name][head] = self._letters[act[1]]
        else:
            under = self._written[name].get(head, (name, head))
            if verb == "look":
                self._letters[act[1]] = under
            else:
                self._ties.tie(under, act[1])

    def _do_word(self, name, act):
        verb = act[0]
        if verb == "lay":
            self._put(name, self._letters[act[1]])
        elif verb in ("push", "put"):
            self._put(name, act[1])
        elif verb == "draw":
            self._letters[act[1]] = self._fronts[name].pop(0)
        else:
            term = self._fronts[name].pop(0)
            # The take of a ring takes whichever letter is there.
            if len(act) == 2:
                self._ties.tie(term, act[1])

    def _put(self, name, term):
        kind = self._kinds[name]
        if kind[0] == "stack":
            self._fronts[name].insert(0, term)
        elif kind[0] == "queue" and self._opens[name]:
            self._backs[name].append(term)
        else:
            if kind[0] == "ring" and len(self._fronts[name]) == kind[1]:
                self._fronts[name].pop(0)
            self._fronts[name].append(term)

    def form(self):
        """Return the pair (parts, left) of what was done, None if no load keeps its ties."""
        if not self._ties.are_kept():
            return None
        boxes = []
        for name, kind in self._desk[0]:
            if kind == ("tape",):
                boxes.append((self._heads[name], list(self._written[name].items())))
            else:
                boxes.append((self._fronts[name], self._backs[name]))
        letters = [self._letters[name] for name in self._desk[1]]
        return self._ties.parts(), told_left(self._desk, self._ties, (boxes, letters))


def made_form(desk, row, depths, cls):
    """Return the form of a row in a class, None if it works on no load of it."""
    if len(done_outright(desk, row, cls)) < len(row):
        return None
    signed = Signed(desk, depths, cls)
    for step in row:
        signed.do(step)
    return signed.form()
