"""Lettering: which letters stand in rows, new ones beside them, and loads made of letters for signs."""

from boxeffects.boxes import told_tape
from boxeffects.kinds import STEP_PARTS, letter_number
from boxeffects.ties import is_sign


def letters_of_step(step):
    """Return the list of the letters of a step of any kind; names are none."""
    letters = []
    for (_, verb), parts in STEP_PARTS.items():
        if verb == step[0] and len(parts) + 1 == len(step):
            letters.extend([given for part, given in zip(parts, step[1:]) if part == "letter"])
    return letters


def letters_of_moved(row):
    """Return the list of the letters of all steps of a moved row; names of boxes and registers are none."""
    letters = []
    for step in row:
        if len(step) == 2:
            letters.extend(letters_of_step(step[1]))
        elif step[0] == "is":
            letters.append(step[2])
    return letters


class NewLetters:
    """The letters that are not taken, one after the other: shorter ones ahead, then by the alphabet."""

    def __init__(self, taken):
        self._taken = {letter: True for letter in taken}
        self._number = 0

    def next_one(self):
        """Return the next new letter."""
        letter = letter_number(self._number)
        while letter in self._taken:
            self._number += 1
            letter = letter_number(self._number)
        self._number += 1
        return letter

    def next_ones(self, many):
        """Return the list of so many further new letters."""
        return [self.next_one() for _ in range(many)]


class Lying:
    """The letters that lie in a load, by their signs; places below 0 of a word are counted from its end."""

    def __init__(self, desk, load):
        self._letters = {(name,): letter for name, letter in zip(desk[1], load[1])}
        self._rests = {}
        for (name, kind), contents in zip(desk[0], load[0]):
            if kind == ("tape",):
                self._rests[name] = contents[1]
                pairs = list(contents[0])
            else:
                pairs = list(enumerate(contents, start=1)) + list(enumerate(contents, start=-len(contents)))
            self._letters.update({(name, place): letter for place, letter in pairs})

    def under(self, sign):
        """Return the letter for which a sign stands."""
        # Only of tapes there are signs of places beyond those that are told.
        return self._letters[sign] if sign in self._letters else self._rests[sign[0]]


def letters_for(signs, ties, new):
    """Return the dict from the signs, ascending, to their letters: where ties give none, each part has a new one."""
    given = {}
    letters = {}
    for sign in signs:
        told = ties.tell(sign)
        if is_sign(told):
            if told not in given:
                given[told] = new.next_one()
            told = given[told]
        letters[sign] = told
    return letters


def places_in(signs, name):
    """Return the list of the places of a box at which signs stand."""
    return [sign[1] for sign in signs if len(sign) == 2 and sign[0] == name]


def load_with(desk, cls, letters, behind, rests):
    """Return the load of a class with these letters for its signs.

    The dict behind tells what stands behind the signs of a box, the dict rests the letters of the rests of tapes.
    """
    contents = []
    for (name, kind), number in zip(desk[0], cls):
        if kind == ("tape",):
            lying = {place: letters[(name, place)] for place in places_in(list(letters), name)}
            contents.append(told_tape(lying, rests[name]))
        else:
            word = tuple([letters[(name, at)] for at in range(1, number + 1)])
            contents.append(word + behind.get(name, ()))
    return tuple(contents), tuple([letters[(name,)] for name in desk[1]])
