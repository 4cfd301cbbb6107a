"""Programs of parts and repeats: their forms and what they leave, told without going through their steps."""

from boxeffects.comparing import is_form_less
from boxeffects.errors import NoBoxes, NoPart, NoPlace, NoProgram, NoStep, TooMany
from boxeffects.kinds import MOST_STEPS, is_between, is_letter
from boxeffects.reckoning import Reckoning
from boxeffects.running import all_told, states_of
from boxeffects.several import (
    Boxes,
    kinds_of,
    mixed_left,
    mixed_works,
    need_all_contents,
    need_mixed_row,
)

MOST_PARTS = 6
MOST_ACTS = 60
MOST_REPEATS = 10 ** 12
MAIN = "main"


def is_act(boxes, ahead, value):
    """Tell whether any value is an act, behind parts with the names ahead."""
    if not isinstance(value, tuple) or not 2 <= len(value) <= 3 or not isinstance(value[0], str):
        return False
    if value[0] == "do":
        return boxes.has_step(value[1:])
    if not is_letter(value[-1]) or value[-1] not in ahead:
        return False
    if value[0] == "call":
        return len(value) == 2
    return value[0] == "repeat" and len(value) == 3 and is_between(value[1], 1, MOST_REPEATS)


def is_program_part(boxes, ahead, value):
    """Tell whether any value is a part that can stand behind those with the names ahead."""
    if not isinstance(value, tuple) or len(value) != 2 or not is_letter(value[0]) or value[0] in ahead:
        return False
    acts = value[1]
    return isinstance(acts, tuple) and len(acts) <= MOST_ACTS and all([is_act(boxes, ahead, act) for act in acts])


class Program:
    """One to six parts, each a name and acts, done on boxes; the last one is main."""

    def __init__(self, boxes, parts):
        if not isinstance(boxes, Boxes):
            raise NoBoxes(boxes)
        if not isinstance(parts, (list, tuple)) or not 1 <= len(parts) <= MOST_PARTS:
            raise NoProgram(None)
        acts = {}
        for index, part in enumerate(parts):
            if not is_program_part(boxes, acts, part):
                raise NoProgram(index)
            acts[part[0]] = part[1]
        self._boxes = boxes
        self._acts = acts

    def boxes(self):
        """Return the boxes on which the program is done."""
        return self._boxes

    def parts(self):
        """Return the tuple of the pairs of a name and acts, main last."""
        return tuple(self._acts.items())

    def names(self):
        """Return the list of the names of the parts, main last."""
        return list(self._acts)

    def acts_of(self, name):
        """Return the tuple of the acts of the part of this name."""
        if not is_letter(name) or name not in self._acts:
            raise NoPart(name)
        return self._acts[name]

    @staticmethod
    def from_row(boxes, row):
        """Return the program of one part, main, that does the mixed row."""
        need_mixed_row(boxes, row)
        return Program(boxes, ((MAIN, tuple([("do", name, step) for name, step in row])),))

    def __eq__(self, other):
        # Dicts would be equal in another order, too.
        return isinstance(other, Program) and self._boxes == other._boxes and self.parts() == other.parts()


def need_program(program):
    """Raise NoProgram unless it is a program."""
    if not isinstance(program, Program):
        raise NoProgram(program)


def reckoning_of(program):
    """Return the reckoning of what is found to be a program."""
    need_program(program)
    return Reckoning(program.boxes(), program.parts(), {})


def main_of(program):
    """Return the name of the last part."""
    return program.names()[-1]


def reached_parts(program):
    """Return the list of the names of the parts that main leads to, main too, in order."""
    need_program(program)
    names = program.names()
    reached = {names[-1]: True}
    for name in reversed(names):
        if name in reached:
            for act in program.acts_of(name):
                if act[0] != "do":
                    reached[act[-1]] = True
    return [name for name in names if name in reached]


def length_of(program, name):
    """Return how many steps a part has."""
    reckoning = reckoning_of(program)
    program.acts_of(name)
    return reckoning.length(name)


def need_first(reckoning, name, k, more):
    """Raise NoPlace unless k is a number from 0 to less than the length of a part and so many more."""
    if not is_between(k, 0, reckoning.length(name) + more - 1):
        raise NoPlace(k)


def step_at(program, k):
    """Return the mixed step with the number k of the program."""
    reckoning = reckoning_of(program)
    main = main_of(program)
    need_first(reckoning, main, k, 0)
    return reckoning.step(main, k)


def times_done(program, step):
    """Return how often a mixed step is among the steps of the program."""
    reckoning = reckoning_of(program)
    if not program.boxes().has_step(step):
        raise NoStep(step)
    return reckoning.times(main_of(program), step)


def shown_row(program):
    """Return the mixed row of the program's steps."""
    reckoning = reckoning_of(program)
    main = main_of(program)
    many = reckoning.length(main)
    if many > MOST_STEPS:
        raise TooMany(MOST_STEPS)
    return tuple([reckoning.step(main, k) for k in range(many)])


def part_form(program, name):
    """Return the mixed form of the steps of a part."""
    reckoning = reckoning_of(program)
    program.acts_of(name)
    return reckoning.form(name)


def program_form(program):
    """Return the mixed form of the program's steps."""
    return reckoning_of(program).form(main_of(program))


def form_behind(program, k):
    """Return the mixed form of the first k steps of the program."""
    reckoning = reckoning_of(program)
    main = main_of(program)
    need_first(reckoning, main, k, 1)
    return reckoning.first_form(main, k)


def form_on(program, contents):
    """Return the mixed form of what is found to be a program, with all contents of its boxes."""
    need_program(program)
    need_all_contents(program.boxes(), contents)
    return program_form(program)


def does_work(program, contents):
    """Tell whether the program's steps work on all contents."""
    form = form_on(program, contents)
    return mixed_works(program.boxes(), form, contents)


def program_left(program, contents):
    """Return what the program leaves of all contents, None if it does not work."""
    form = form_on(program, contents)
    return mixed_left(program.boxes(), form, contents)


def run_first(program, k, contents):
    """Return the pair of how many of the first k steps are done on all contents, and the states then or None."""
    reckoning = reckoning_of(program)
    main = main_of(program)
    # What is too long for the whole is so for few steps, too.
    reckoning.form(main)
    return reckoning.run(main, states_of(kinds_of(program.boxes()), contents), k)


def failing_number(program, contents):
    """Return the number of the first step that fails, None if the program works."""
    need_program(program)
    need_all_contents(program.boxes(), contents)
    many = length_of(program, main_of(program))
    done, _ = run_first(program, many, contents)
    return done if done < many else None


def steps_left(program, k, contents):
    """Return what the first k steps leave of all contents, None if one of them fails."""
    need_first(reckoning_of(program), main_of(program), k, 1)
    need_all_contents(program.boxes(), contents)
    _, states = run_first(program, k, contents)
    return None if states is None else all_told(kinds_of(program.boxes()), states)


def need_like_program(program, boxes):
    """Raise NoProgram unless it is a program of like boxes."""
    if not isinstance(program, Program) or program.boxes() != boxes:
        raise NoProgram(program)


def both_program_forms(one, other):
    """Return the mixed forms of what are found to be two programs of like boxes."""
    need_program(one)
    need_like_program(other, one.boxes())
    return program_form(one), program_form(other)


def programs_alike(one, other):
    """Tell whether the steps of both programs have one effect."""
    first, second = both_program_forms(one, other)
    return first == second


def is_program_less(one, other):
    """Tell whether the other program works wherever the one does, and leaves the same there."""
    first, second = both_program_forms(one, other)
    if first is None or second is None:
        return first is None
    kinds = kinds_of(one.boxes())
    return all([is_form_less(kind, part, more) for kind, part, more in zip(kinds, first, second)])


def form_without(program, reckoning, name, index):
    """Return the mixed form of the program without one act of a part that is reached."""
    acts = program.acts_of(name)
    changed = reckoning.form_of_acts(acts[:index] + acts[index + 1:])
    if changed == reckoning.form(name):
        return reckoning.form(main_of(program))
    # The parts ahead of this one stay as they are, and its own acts are not asked any more.
    known = {name: changed}
    for part in reached_parts(program):
        if part == name:
            break
        known[part] = reckoning.form(part)
    return Reckoning(program.boxes(), program.parts(), known).form(main_of(program))


def is_idle(program, reckoning, name, index):
    """Tell whether the program without one act of a part that is reached is alike."""
    try:
        return form_without(program, reckoning, name, index) == reckoning.form(main_of(program))
    except TooMany:
        return False


def idle_acts(program):
    """Return the list of the pairs (name, index) of the idle acts, part by part."""
    reckoning = reckoning_of(program)
    reckoning.form(main_of(program))
    acts = [(name, index) for name in reached_parts(program) for index in range(len(program.acts_of(name)))]
    return [(name, index) for name, index in acts if is_idle(program, reckoning, name, index)]
