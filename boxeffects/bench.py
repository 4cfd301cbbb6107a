"""A bench: boxes with contents, deeds done on them and taken back, and trials."""

from boxeffects.checks import need_count
from boxeffects.errors import NoPlace, NothingBack, NoWork
from boxeffects.kinds import is_between
from boxeffects.powers import left_behind, works_behind
from boxeffects.programs import MOST_REPEATS
from boxeffects.running import mixed_power
from boxeffects.several import all_left, both_mixed, kinds_of, mixed_form, need_all_contents, need_mixed_row


def repeated_left(boxes, row, times, contents):
    """Return what a mixed row done so many times leaves of all contents, None if a step fails at some time."""
    form = mixed_form(boxes, row)
    if form is None:
        return None
    kinds = kinds_of(boxes)
    # One box that fails refuses the deed, also where another one's contents would be too long.
    if not all([works_behind(kind, part, times, own) for kind, part, own in zip(kinds, form, contents)]):
        return None
    return tuple([left_behind(kind, part, times, own) for kind, part, own in zip(kinds, form, contents)])


def left_by_deed(boxes, deed, contents):
    """Return what a deed leaves of all contents; raise NoWork if a step fails."""
    if deed[0] == "row":
        left = all_left(boxes, deed[1], contents)
    else:
        left = repeated_left(boxes, deed[1], deed[2], contents)
    if left is None:
        raise NoWork(None)
    return left


def form_of_deed(boxes, deed):
    """Return the mixed form of a deed."""
    form = mixed_form(boxes, deed[1])
    return form if deed[0] == "row" else mixed_power(kinds_of(boxes), form, deed[2])


def touched_by(deed):
    """Return the list of the names of the boxes that a deed touches."""
    return [name for name, _ in deed[1]]


def do_share(one, other):
    """Tell whether two deeds touch one box."""
    names = touched_by(other)
    return any([name in names for name in touched_by(one)])


class Bench:
    """Boxes, the line of the deeds done on them, and all contents at each moment."""

    def __init__(self, boxes, contents):
        need_all_contents(boxes, contents)
        self._boxes = boxes
        self._deeds = []
        # One more than there are deeds: the contents ahead of all, and behind each one.
        self._moments = [contents]
        # What can be done again, the deed that was taken back last at the end.
        self._undone = []
        # The deeds ahead of this number are those of ahead of a trial, and stay.
        self._first = 0

    def boxes(self):
        """Return the boxes."""
        return self._boxes

    def now(self):
        """Return all contents now."""
        return self._moments[-1]

    def deeds(self):
        """Return the list of the deeds that are done and not taken back."""
        return list(self._deeds)

    def was(self, moment):
        """Return all contents at a moment."""
        if not is_between(moment, 0, len(self._deeds)):
            raise NoPlace(moment)
        return self._moments[moment]

    def form_between(self, one, other):
        """Return the mixed form of the deeds between two moments."""
        if not is_between(one, 0, len(self._deeds)):
            raise NoPlace(one)
        if not is_between(other, one, len(self._deeds)):
            raise NoPlace(other)
        made = mixed_form(self._boxes, ())
        for deed in self._deeds[one:other]:
            made = both_mixed(kinds_of(self._boxes), made, form_of_deed(self._boxes, deed))
        return made

    def do(self, row):
        """Do a mixed row."""
        need_mixed_row(self._boxes, row)
        self._append(("row", row))
        self._undone = []

    def repeat(self, row, times):
        """Do a mixed row so many times."""
        need_mixed_row(self._boxes, row)
        need_count(times, 1, MOST_REPEATS)
        self._append(("repeat", row, times))
        self._undone = []

    def _append(self, deed):
        left = left_by_deed(self._boxes, deed, self.now())
        self._deeds.append(deed)
        self._moments.append(left)

    def undo(self):
        """Take back the last deed."""
        if len(self._deeds) == self._first:
            raise NothingBack("undo")
        self._undone.append(self._deeds.pop())
        self._moments.pop()

    def redo(self):
        """Do the deed again that was taken back last."""
        if not self._undone:
            raise NothingBack("redo")
        self._append(self._undone[-1])
        self._undone.pop()

    def undo_of(self, name):
        """Take out of the line the last deed that touches the box, if nothing behind it hangs on it."""
        self._boxes.kind_of(name)
        places = [place for place, deed in enumerate(self._deeds) if name in touched_by(deed)]
        if not places or places[-1] < self._first:
            raise NothingBack(name)
        place = places[-1]
        deed = self._deeds[place]
        if any([do_share(deed, later) for later in self._deeds[place + 1:]]):
            raise NothingBack(name)
        self._take_out(place)

    def _take_out(self, place):
        deed = self._deeds.pop(place)
        # Nothing behind the deed touches its boxes: they stay as they were ahead of it.
        touched = touched_by(deed)
        names = self._boxes.names()
        ahead = self._moments[place]
        later = self._moments[place + 2:]
        self._moments = self._moments[:place + 1]
        for contents in later:
            left = [first if name in touched else part for name, first, part in zip(names, ahead, contents)]
            self._moments.append(tuple(left))
        self._undone.append(deed)

    def trying(self, guest, *, kept=False):
        """Call the guest with this bench within a trial, and return what it returns."""
        deeds = list(self._deeds)
        moments = list(self._moments)
        undone = self._undone
        first = self._first
        self._undone = []
        self._first = len(deeds)
        try:
            told = guest(self)
            if kept is True:
                deeds, moments, undone = self._deeds, self._moments, []
            return told
        finally:
            self._deeds, self._moments, self._undone, self._first = deeds, moments, undone, first

    def twin(self):
        """Return an equal bench that goes on by itself, outside of any trial."""
        bench = Bench(self._boxes, self._moments[0])
        bench._deeds = list(self._deeds)
        bench._moments = list(self._moments)
        bench._undone = list(self._undone)
        return bench

    def __len__(self):
        return len(self._deeds[self._first:])

    def __eq__(self, other):
        if not isinstance(other, Bench):
            return False
        if self._boxes != other._boxes or self._deeds != other._deeds:
            return False
        return self._moments[0] == other._moments[0]
