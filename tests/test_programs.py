"""Promise [18]: programs, their steps and forms, what they leave, where they fail, idle acts."""

import random
import unittest

from boxeffects.comparing import is_less
from boxeffects.kinds import measured
from boxeffects.boxes import run_row
from boxeffects.programs import (
    Program,
    does_work,
    failing_number,
    form_behind,
    idle_acts,
    is_program_less,
    length_of,
    part_form,
    program_form,
    program_left,
    programs_alike,
    reached_parts,
    shown_row,
    step_at,
    steps_left,
    times_done,
)
from boxeffects.several import Boxes, all_left, first_failing, joined_mixed, mixed_form
from small import ALL_KINDS, KIND_STEPS, ODD, SOME_CONTENTS, TOO_MANY, Everything, raised

STACK, QUEUE, TAPE, HEAP = ("stack",), ("queue",), ("tape",), ("heap",)
FAIL, STOP = ("gauge", 9, "fail"), ("gauge", 9, "stop")
PAIRS = (("s", STACK), ("g", FAIL))
BOXES = Boxes(PAIRS)
PUSH, POP, ADD, SUB = ("do", "s", ("push", "a")), ("do", "s", ("pop", "a")), ("do", "g", ("add", 1)), ("do", "g", ("sub", 1))
TRILLION = 10 ** 12
# Programs, ahead of what else a call is told.
ALONE = (reached_parts, shown_row, program_form, idle_acts)
WITH_ONE = (length_of, step_at, times_done, part_form, form_behind, does_work, program_left, failing_number)


def program(*parts, boxes=BOXES):
    return Program(boxes, parts)


def on(kind, *parts):
    """A program on one box, b, its acts plain steps or acts."""
    told = [(name, tuple(act if act[0] in ("call", "repeat") else ("do", "b", act) for act in acts)) for name, acts in parts]
    return Program(Boxes([("b", kind)]), told)


def unrolled(made):
    """The dict from the names of the parts to the lists of their steps."""
    steps = {}
    for name, acts in made.parts():
        steps[name] = []
        for act in acts:
            steps[name] += [act[1:]] if act[0] == "do" else steps[act[-1]] * (act[1] if act[0] == "repeat" else 1)
    return steps


def some_programs(seed, many):
    """Programs of parts of a few acts on boxes of all kinds, of up to 300 steps."""
    draw = random.Random(seed)
    while many:
        pairs = tuple((name, draw.choice(ALL_KINDS)) for name in "abc"[:draw.randint(1, 3)])
        parts = []
        for name in "pqrm"[draw.randint(0, 3):]:
            acts = []
            for _ in range(draw.randint(0, 4)):
                ahead = [part for part, _ in parts]
                if ahead and draw.random() < 0.5:
                    called = draw.choice(ahead)
                    acts.append(draw.choice([("call", called), ("repeat", draw.randint(1, 4), called)]))
                else:
                    box, kind = draw.choice(pairs)
                    acts.append(("do", box, draw.choice(KIND_STEPS[kind[0]])))
            parts.append((name, tuple(acts)))
        made = Program(Boxes(pairs), parts)
        if length_of(made, made.names()[-1]) <= 300:
            many -= 1
            yield draw, made, unrolled(made)


def form_of_steps(boxes, steps):
    """The mixed form of a row of any length."""
    made = mixed_form(boxes, ())
    for at in range(0, len(steps), 60):
        made = joined_mixed(boxes, made, mixed_form(boxes, tuple(steps[at:at + 60])))
    return made


def plain_states(boxes, steps, contents):
    """All contents ahead of the steps and behind each one, up to the first that fails."""
    names = boxes.names()
    states = [contents]
    for name, step in steps:
        place = names.index(name)
        course = run_row(boxes.kind_of(name), (step,), states[-1][place])
        if len(course) == 1:
            break
        states.append(states[-1][:place] + (course[1],) + states[-1][place + 1:])
    return states


class Making(unittest.TestCase):
    def test_parts_as_they_were_told(self):
        parts = (("p", (PUSH, ADD)), ("q", ()), ("main", (("call", "p"), ("repeat", 3, "q"))))
        made = program(*parts)
        self.assertEqual(made.parts(), parts)
        self.assertEqual(made.names(), ["p", "q", "main"])
        self.assertEqual(made.acts_of("p"), (PUSH, ADD))
        self.assertEqual(made.acts_of("q"), ())
        self.assertEqual(made.boxes(), BOXES)
        self.assertEqual(Program(BOXES, list(parts)), made)
        # A part and a box may be called alike, and main is whichever stands last.
        self.assertEqual(program(("s", (PUSH,)), ("g", (("call", "s"),))).names(), ["s", "g"])

    def test_bent_parts(self):
        for value in (None, "ab", {}, 1, (), [], [("p", ())] * 7, {"p": ()}, iter([("p", ())])):
            self.assertEqual(raised(Program, BOXES, value), ("NoProgram", None))
        good = ("p", (PUSH,))
        for bad in (
            None, "pq", ["q", ()], ("q",), ("q", (), ()), ("Q", ()), ("abcde", ()), (1, ()), ("q", []), ("q", None), ("q", "ab"), ("p", ()),
            ("q", (PUSH,) * 61), ("q", (None,)), ("q", ((),)), ("q", (["do", "s", ("push", "a")],)), ("q", (("do", "s"),)),
            ("q", (("do", "x", ("push", "a")),)), ("q", (("do", "g", ("push", "a")),)), ("q", (("do", "g", ("add", 10)),)),
            ("q", (("do", "s", ["push", "a"]),)), ("q", (("do", ("s", ("push", "a"))),)), ("q", (("do", "s", ("push", "a"), 1),)),
            ("q", (("call",),)), ("q", (("call", "q"),)), ("q", (("call", "r"),)), ("q", (("call", "p", "p"),)), ("q", (("call", None),)),
            ("q", (("call", ["p"]),)), ("q", (("repeat", 3),)), ("q", (("repeat", 0, "p"),)), ("q", (("repeat", TRILLION + 1, "p"),)),
            ("q", (("repeat", True, "p"),)), ("q", (("repeat", 2.0, "p"),)), ("q", (("repeat", -1, "p"),)), ("q", (("repeat", 2, "q"),)),
            ("q", (("repeat", "p", 2),)), ("q", (("repeat", 2, "p", "p"),)), ("q", (("jump", "p"),)), ("q", ((None, "p"),)),
            ("q", ((Everything(), "p"),)), ("q", ((Everything(), "s", ("push", "a")),)), ("q", (("jump", 2, "p"),)), ("q", (("do", "s", ("push", "a"), "p"),)),
            ("q", (("repeat", 2, 3, "p"),)), ("q", (("call", Everything()),)), (Everything(), ()), Everything(), *ODD,
        ):
            self.assertEqual(raised(Program, BOXES, [good, bad, bad]), ("NoProgram", 1), bad)
        self.assertEqual(raised(Program, BOXES, [("p", (("call", "q"),)), ("q", ())]), ("NoProgram", 0))

    def test_bounds(self):
        self.assertEqual(len(program(*[(name, ()) for name in "abcdef"]).names()), 6)
        self.assertEqual(length_of(program(("p", (PUSH,) * 60)), "p"), 60)
        self.assertEqual(length_of(program(("p", (PUSH,)), ("q", (("repeat", TRILLION, "p"),))), "q"), TRILLION)

    def test_no_boxes_ahead_of_all(self):
        for value in (None, PAIRS, list(PAIRS), "ab", *ODD):
            self.assertEqual(raised(Program, value, None), ("NoBoxes", value))
            self.assertEqual(raised(Program.from_row, value, None), ("NoBoxes", value))

    def test_acts_of_no_part(self):
        made = program(("p", ()), ("main", ()))
        for value in (None, "q", "Main", 1, ["p"], ("p",), *ODD):
            self.assertEqual(raised(made.acts_of, value), ("NoPart", value))

    def test_equality(self):
        one = program(("p", (PUSH,)), ("q", ()))
        self.assertEqual(one, program(("p", (PUSH,)), ("q", ())))
        for other in (program(("q", ()), ("p", (PUSH,))), program(("p", (PUSH,))), program(("p", (PUSH,)), ("r", ())),
                      program(("p", (PUSH,)), ("q", ()), boxes=Boxes(PAIRS[::-1])), (("p", (PUSH,)), ("q", ())), None):
            self.assertNotEqual(one, other)

    def test_lists_that_are_changed_afterwards(self):
        parts = [("p", (PUSH,))]
        made = Program(BOXES, parts)
        parts[0] = ("q", ())
        parts.append(("r", ()))
        made.names().append("x")
        self.assertEqual(made.parts(), (("p", (PUSH,)),))
        self.assertEqual(made.names(), ["p"])

    def test_from_row(self):
        row = (("s", ("push", "a")), ("g", ("add", 1)))
        self.assertEqual(Program.from_row(BOXES, row), program(("main", (PUSH, ADD))))
        self.assertEqual(Program.from_row(BOXES, ()), program(("main", ())))
        for value in (None, list(row), row * 31, (("s", ("add", 1)),), "ab"):
            self.assertEqual(raised(Program.from_row, BOXES, value), ("NoRow", value))


class Steps(unittest.TestCase):
    def test_beside_the_steps_one_by_one(self):
        for _, made, steps in some_programs(61, 300):
            main = made.names()[-1]
            for name in steps:
                self.assertEqual(length_of(made, name), len(steps[name]))
            self.assertEqual([step_at(made, k) for k in range(len(steps[main]))], steps[main])
            for name, kind in made.boxes().pairs():
                for step in KIND_STEPS[kind[0]]:
                    self.assertEqual(times_done(made, (name, step)), steps[main].count((name, step)))
            self.assertEqual(raised(step_at, made, len(steps[main])), ("NoPlace", len(steps[main])))
            if len(steps[main]) <= 60:
                self.assertEqual(shown_row(made), tuple(steps[main]))
            else:
                self.assertEqual(raised(shown_row, made), ("TooMany", 60))

    def test_reached_parts(self):
        made = program(("p", ()), ("q", (("call", "p"),)), ("r", (("repeat", 2, "p"),)), ("t", ()), ("main", (("call", "r"), PUSH)))
        self.assertEqual(reached_parts(made), ["p", "r", "main"])
        self.assertEqual(reached_parts(program(("p", ()), ("main", ()))), ["main"])
        made = program(("p", ()), ("q", (("repeat", 9, "p"),)), ("main", (("call", "q"), ("call", "q"))))
        self.assertEqual(reached_parts(made), ["p", "q", "main"])

    def test_more_than_can_be_gone_through(self):
        acts = [("a", (PUSH, POP, ADD, SUB))]
        for name, ahead in zip("bcdef", "abcde"):
            acts.append((name, (("repeat", TRILLION, ahead),) * 60))
        made = Program(BOXES, acts)
        many = 4 * (60 * TRILLION) ** 5
        self.assertGreater(many, 10 ** 69)
        self.assertEqual(length_of(made, "f"), many)
        self.assertEqual(step_at(made, many - 1), ("g", ("sub", 1)))
        for k in (many // 3, many // 2 + 1, many - 2):
            self.assertEqual(step_at(made, k), (PUSH, POP, ADD, SUB)[k % 4][1:])
        self.assertEqual(times_done(made, ("g", ("add", 1))), many // 4)
        self.assertEqual(times_done(made, ("g", ("add", 2))), 0)
        self.assertEqual(program_form(made), (((), ()), (0, 0, 8)))
        self.assertEqual(form_behind(made, many - 1), (((), ()), (0, 1, 8)))
        self.assertEqual(failing_number(made, ((), 9)), 2)
        self.assertIsNone(failing_number(made, ((), 8)))
        self.assertEqual(steps_left(made, many - 3, (("b",), 4)), (("a", "b"), 4))
        self.assertEqual(raised(step_at, made, many), ("NoPlace", many))
        # 60 acts in each of six parts: above 10 ** 70.
        wide = Program(BOXES, [("a", (PUSH, POP) * 30)] + [(name, (("repeat", TRILLION, ahead),) * 60) for name, ahead in zip("bcdef", "abcde")])
        self.assertEqual(length_of(wide, "f"), 60 ** 6 * TRILLION ** 5)
        self.assertGreater(length_of(wide, "f"), 10 ** 70)
        self.assertEqual(program_form(wide), (((), ()), (0, 0, 9)))

    def test_calls_of_calls(self):
        # 60 calls in each part are 60 ** 5 in all: none of them is gone through.
        acts = [("a", (PUSH, POP))] + [(name, (("call", ahead),) * 60) for name, ahead in zip("bcdef", "abcde")]
        made = Program(BOXES, acts)
        self.assertEqual(length_of(made, "f"), 2 * 60 ** 5)
        self.assertEqual(times_done(made, ("s", ("pop", "a"))), 60 ** 5)
        self.assertEqual(reached_parts(made), list("abcdef"))
        self.assertIsNone(failing_number(made, ((), 0)))
        self.assertEqual(steps_left(made, 2 * 60 ** 5 - 1, ((), 0)), (("a",), 0))

    def test_shown_row_of_60_and_61(self):
        made = program(("p", (PUSH, ADD)), ("main", (("repeat", 30, "p"),)))
        self.assertEqual(shown_row(made), (("s", ("push", "a")), ("g", ("add", 1))) * 30)
        made = program(("p", (PUSH, ADD)), ("main", (("repeat", 30, "p"), ADD)))
        self.assertEqual(raised(shown_row, made), ("TooMany", 60))
        self.assertEqual(shown_row(program(("main", ()))), ())


class FormsOfParts(unittest.TestCase):
    def test_beside_the_form_of_the_steps(self):
        for _, made, steps in some_programs(62, 300):
            boxes, main = made.boxes(), made.names()[-1]
            for name in steps:
                self.assertEqual(part_form(made, name), form_of_steps(boxes, steps[name]))
            self.assertEqual(program_form(made), part_form(made, main))
            many = len(steps[main])
            for k in {0, 1, many // 3, many // 2, many - 1, many}:
                if 0 <= k <= many:
                    self.assertEqual(form_behind(made, k), form_of_steps(boxes, steps[main][:k]))

    def test_too_many_on_the_way(self):
        # One push 4001 times; also where another part takes them away.
        pushed = (("p", (("push", "a"),)), ("q", (("repeat", 4001, "p"),)), ("r", (("pop", "a"),)))
        made = on(STACK, *pushed, ("main", (("call", "q"), ("repeat", 4001, "r"))))
        for call in (program_form, idle_acts):
            self.assertEqual(raised(call, made), TOO_MANY)
        self.assertEqual(raised(part_form, made, "q"), TOO_MANY)
        self.assertEqual(part_form(made, "p"), (((), ("a",)),))
        self.assertEqual(form_behind(made, 4000), (((), ("a",) * 4000),))
        self.assertEqual(raised(form_behind, made, 4001), TOO_MANY)
        self.assertEqual(raised(form_behind, made, 4002), TOO_MANY)
        # A part that is not reached is not reckoned.
        self.assertEqual(program_form(on(STACK, *pushed, ("main", (("call", "p"),)))), (((), ("a",)),))
        self.assertEqual(part_form(on(STACK, *pushed, ("main", (("call", "q"),))), "r"), ((("a",), ()),))
        # What is joined so far counts, whatever comes behind.
        made = on(STACK, ("p", (("push", "a"),)), ("main", (("repeat", 4000, "p"), ("push", "a"), ("pop", "a"))))
        self.assertEqual(raised(program_form, made), TOO_MANY)
        self.assertEqual(form_behind(made, 4000), (((), ("a",) * 4000),))
        self.assertEqual(raised(form_behind, made, 4001), TOO_MANY)

    def test_behind_a_none_acts_are_still_reckoned(self):
        nowhere = (("push", "a"), ("pop", "b"))
        made = on(STACK, ("p", (("push", "a"),)), ("main", nowhere + (("repeat", 4001, "p"),)))
        self.assertEqual(raised(program_form, made), TOO_MANY)
        made = on(STACK, ("p", (("push", "a"),)), ("main", nowhere + (("repeat", 4000, "p"), ("push", "a"))))
        self.assertIsNone(program_form(made))
        # The form of one box that is None makes all of it None, however long another one's would be.
        boxes = Boxes([("s", STACK), ("t", STACK)])
        parts = [("p", (("do", "s", ("push", "a")), ("do", "t", ("pop", "b")), ("do", "t", ("push", "c")))),
                 ("main", (("repeat", 10 ** 6, "p"),))]
        self.assertIsNone(program_form(Program(boxes, parts)))
        self.assertEqual(failing_number(Program(boxes, parts), ((), ("b",))), 4)

    def test_form_behind_by_its_own_way_alone(self):
        made = on(STACK, ("p", (("push", "a"),)), ("q", (("repeat", 9000, "p"),)), ("main", (("push", "b"), ("call", "q"))))
        self.assertEqual(form_behind(made, 1), (((), ("b",)),))
        self.assertEqual(form_behind(made, 4000), (((), ("a",) * 3999 + ("b",)),))
        self.assertEqual(raised(form_behind, made, 4001), TOO_MANY)
        # 3999 times ab and one a more: the power is let, all of it joined is not.
        made = on(QUEUE, ("p", (("put", "a"), ("put", "b"))), ("main", (("repeat", 2001, "p"),)))
        self.assertEqual(form_behind(made, 3999)[0][1][-2:], ("b", "a"))
        self.assertEqual(raised(form_behind, made, 4001), TOO_MANY)

    def test_tapes_heaps_and_gauges_far_on(self):
        made = on(TAPE, ("p", (("right",), ("right",))), ("main", (("repeat", TRILLION, "p"), ("write", "x"))))
        self.assertEqual(program_form(made), ((2 * TRILLION, (), ((2 * TRILLION, "x"),)),))
        made = on(HEAP, ("p", (("insert", 5),)), ("q", (("least",),)), ("main", (("repeat", TRILLION, "p"), ("repeat", TRILLION - 1, "q"))))
        self.assertEqual(program_form(made), ((0, ((None, 1 - TRILLION, 0), (5, 1, 1))),))
        self.assertEqual(program_left(made, ((1, 7),)), ((5, 5, 7),))
        made = on(STOP, ("p", (("add", 1),)), ("main", (("repeat", TRILLION, "p"), ("sub", 2))))
        self.assertEqual(program_form(made), ((7, 0, 7),))


class Runs(unittest.TestCase):
    def test_beside_the_plain_steps(self):
        failed = 0
        for draw, made, steps in some_programs(63, 400):
            boxes, steps = made.boxes(), steps[made.names()[-1]]
            many = len(steps)
            for _ in range(4):
                contents = tuple(draw.choice(SOME_CONTENTS[kind]) for _, kind in boxes.pairs())
                states = plain_states(boxes, steps, contents)
                works = len(states) > many
                failed += not works
                self.assertIs(does_work(made, contents), works)
                self.assertEqual(program_left(made, contents), states[-1] if works else None)
                self.assertEqual(failing_number(made, contents), None if works else len(states) - 1)
                for k in {0, 1, many // 3, many // 2, len(states) - 1, len(states), many}:
                    if 0 <= k <= many:
                        self.assertEqual(steps_left(made, k, contents), states[k] if k < len(states) else None)
        self.assertGreater(failed, 300)

    def test_great_repeats(self):
        made = on(FAIL, ("p", (("add", 2), ("sub", 1))), ("main", (("sub", 1), ("repeat", TRILLION, "p"))))
        self.assertEqual(failing_number(made, (0,)), 0)
        # From 3: 2 is led up by 1 each time, as long as 2 can be added.
        self.assertEqual(failing_number(made, (3,)), 1 + 2 * 6)
        self.assertEqual([steps_left(made, k, (3,)) for k in (0, 1, 2, 3, 11, 12, 13, 14)],
                         [(3,), (2,), (4,), (3,), (7,), (9,), (8,), None])
        made = on(QUEUE, ("p", (("take", "a"), ("put", "a"))), ("main", (("repeat", 2000, "p"), ("take", "b"))))
        self.assertEqual(failing_number(made, (("a", "a", "b"),)), 4)
        self.assertEqual(failing_number(made, (("a",),)), 4000)
        self.assertEqual(failing_number(made, (("b",),)), 0)

    def test_heaps_of_more_numbers_than_can_be_told(self):
        parts = (("p", (("insert", 5),)), ("q", (("least",),)))
        made = on(HEAP, *parts, ("main", (("repeat", TRILLION, "p"), ("repeat", TRILLION, "q"), ("least",), ("least",), ("least",))))
        self.assertEqual(failing_number(made, ((1, 9),)), 2 * TRILLION + 2)
        self.assertIs(does_work(made, ((1, 2, 3),)), True)
        self.assertEqual(program_left(made, ((1, 7, 8, 9),)), ((9,),))
        self.assertEqual(steps_left(made, 2 * TRILLION, ((1, 7),)), ((5, 7),))
        self.assertEqual(steps_left(made, 2 * TRILLION - 3, ((7, 8),)), ((5, 5, 5, 7, 8),))
        self.assertEqual(raised(steps_left, made, TRILLION, ((1, 7),)), TOO_MANY)
        self.assertEqual(steps_left(made, 2, ((1, 7),)), ((1, 5, 5, 7),))
        self.assertIsNone(steps_left(made, 2 * TRILLION + 3, ((1, 9),)))

    def test_too_many(self):
        # What stands in between is not asked, and what is left is.
        made = program(("p", (PUSH,)), ("main", (("repeat", 10, "p"), SUB, POP, POP)))
        full = (("a",) * 4000, 1)
        self.assertEqual(raised(program_left, made, full), TOO_MANY)
        self.assertEqual(raised(steps_left, made, 10, full), TOO_MANY)
        self.assertIs(does_work(made, full), True)
        self.assertIsNone(failing_number(made, full))
        self.assertEqual(failing_number(made, (full[0], 0)), 10)
        self.assertIsNone(steps_left(made, 11, (full[0], 0)))
        made = program(("p", (PUSH,)), ("q", (POP,)), ("main", (("repeat", 10, "p"), ("repeat", 10, "q"), SUB)))
        self.assertEqual(program_left(made, full), (full[0], 0))
        self.assertEqual(steps_left(made, 20, full), full)

    def test_as_program_form(self):
        made = program(("p", (PUSH,)), ("q", (POP,)), ("main", (SUB, ("repeat", 4001, "p"), ("repeat", 4001, "q"))))
        for call in (does_work, program_left, failing_number):
            self.assertEqual(raised(call, made, ((), 1)), TOO_MANY)
            self.assertEqual(raised(call, made, ((), 0)), TOO_MANY)
            self.assertEqual(raised(call, made, None), ("NoContents", None))
        self.assertEqual(raised(steps_left, made, 0, ((), 1)), TOO_MANY)
        self.assertEqual(raised(steps_left, made, -1, ((), 1)), ("NoPlace", -1))
        self.assertEqual(raised(steps_left, made, 0, None), ("NoContents", None))

    def test_the_power_for_the_times_that_are_done(self):
        # All the times are nowhere, as the gauge c is at its end behind 999; the power for 900 times is too long.
        boxes = Boxes([("c", ("gauge", 999, "fail")), ("s", STACK)])
        part = ("p", (("do", "c", ("add", 1)),) + (("do", "s", ("push", "a")),) * 5)
        made = Program(boxes, [part, ("main", (("repeat", TRILLION, "p"),))])
        self.assertIsNone(program_form(made))
        self.assertIs(does_work(made, (0, ())), False)
        self.assertEqual(failing_number(made, (999, ())), 0)
        self.assertEqual(failing_number(made, (199, ())), 800 * 6)
        self.assertEqual(raised(failing_number, made, (198, ())), TOO_MANY)
        self.assertEqual(steps_left(made, 800 * 6, (198, ())), (998, ("a",) * 4000))
        # What is left is asked at last: 800 times are let, one letter more is not.
        self.assertEqual(raised(steps_left, made, 800 * 6 + 2, (198, ())), TOO_MANY)
        self.assertEqual(steps_left(made, 800 * 6 + 1, (198, ())), (999, ("a",) * 4000))
        self.assertEqual(raised(steps_left, made, 801 * 6, (198, ())), TOO_MANY)
        self.assertEqual(raised(steps_left, made, 801 * 6 + 1, (198, ())), TOO_MANY)
        self.assertIsNone(steps_left(made, 800 * 6 + 1, (199, ())))
        self.assertIsNone(steps_left(made, 900 * 6, (999, ())))


class Beside(unittest.TestCase):
    def test_alike_and_less_beside_their_forms(self):
        found = {True: 0, False: 0}
        for draw, made, _ in some_programs(64, 200):
            boxes = made.boxes()
            acts = list(made.parts()[-1][1])
            if acts:
                acts.pop(draw.randrange(len(acts)))
            other = Program(boxes, made.parts()[:-1] + ((made.names()[-1], tuple(acts)),))
            one, two = program_form(made), program_form(other)
            found[one == two] += 1
            self.assertIs(programs_alike(made, other), one == two)
            less = one is None or (two is not None and all(
                is_less(kind, first, second) for (_, kind), first, second in zip(boxes.pairs(), one, two)))
            self.assertIs(is_program_less(made, other), less)
            self.assertIs(programs_alike(made, made), True)
            self.assertIs(is_program_less(made, made), True)
        self.assertGreater(min(found.values()), 20)

    def test_however_they_are_made(self):
        one = program(("p", (PUSH, ADD)), ("main", (("repeat", 3, "p"),)))
        self.assertIs(programs_alike(one, Program.from_row(BOXES, shown_row(one))), True)
        self.assertIs(programs_alike(one, program(("x", (ADD,) * 3 + (PUSH,) * 3))), True)
        self.assertIs(is_program_less(program(("x", (SUB, ADD))), program(("x", ()))), True)
        self.assertIs(is_program_less(program(("x", ())), program(("x", (SUB, ADD)))), False)
        nowhere = program(("x", (PUSH, ("do", "s", ("pop", "b")))))
        self.assertIs(is_program_less(nowhere, one), True)
        self.assertIs(is_program_less(one, nowhere), False)
        self.assertIs(programs_alike(nowhere, program(("x", (ADD,) * 10))), True)

    def test_idle_acts_beside_the_program_without_each(self):
        seen = 0
        for _, made, _ in some_programs(65, 150):
            told = []
            for name in reached_parts(made):
                for index in range(len(made.acts_of(name))):
                    parts = [(part, acts[:index] + acts[index + 1:] if part == name else acts) for part, acts in made.parts()]
                    if programs_alike(made, Program(made.boxes(), parts)):
                        told.append((name, index))
            self.assertEqual(idle_acts(made), told)
            seen += len(told)
        self.assertGreater(seen, 50)

    def test_idle_acts_by_hand(self):
        made = program(("p", ()), ("q", (PUSH,)), ("r", (ADD,)), ("main", (("call", "p"), ("call", "q"), ("repeat", 5, "p"), SUB)))
        self.assertEqual(idle_acts(made), [("main", 0), ("main", 2)])
        self.assertEqual(idle_acts(program(("main", (PUSH, POP)))), [])
        made = on(STOP, ("p", (("add", 9), ("add", 3))), ("main", (("call", "p"), ("repeat", 2, "p"))))
        self.assertEqual(idle_acts(made), [("p", 0), ("p", 1), ("main", 0), ("main", 1)])
        # Without the pop it is too long: this act is not idle.
        made = on(STACK, ("p", (("push", "a"),)), ("main", (("repeat", 4000, "p"), ("pop", "a"), ("push", "a"))))
        self.assertEqual(idle_acts(made), [])

    def test_many_idle_acts(self):
        parts = [("p", (ADD, SUB) * 30)] + [(name, (("call", "p"),) * 60) for name in "qrtu"]
        made = Program(BOXES, parts + [("main", tuple(("call", name) for name in "pqrtu") * 12)])
        told = idle_acts(made)
        self.assertEqual(len([name for name, _ in told if name == "p"]), 0)
        self.assertEqual(len(told), 300)


class Errors(unittest.TestCase):
    def test_no_program_ahead_of_all(self):
        odd = object()
        for value in (None, (("p", ()),), BOXES, "ab", *ODD):
            for call in ALONE:
                self.assertEqual(raised(call, value), ("NoProgram", value))
            for call in WITH_ONE + (programs_alike, is_program_less):
                self.assertEqual(raised(call, value, odd), ("NoProgram", value))
            self.assertEqual(raised(steps_left, value, odd, odd), ("NoProgram", value))
            made = program(("p", ()))
            self.assertEqual(raised(programs_alike, made, value), ("NoProgram", value))
            self.assertEqual(raised(is_program_less, made, value), ("NoProgram", value))

    def test_unlike_boxes(self):
        made = program(("p", ()))
        for boxes in (Boxes(PAIRS[:1]), Boxes(PAIRS[::-1]), Boxes([("s", STACK), ("g", STOP)]), Boxes([("t", STACK), ("g", FAIL)])):
            other = program(("p", ()), boxes=boxes)
            for call in (programs_alike, is_program_less):
                try:
                    call(made, other)
                except ValueError as error:
                    self.assertEqual(type(error).__name__, "NoProgram")
                    self.assertIs(error.told, other)
                else:
                    self.fail()

    def test_too_many_of_either(self):
        long = program(("p", (PUSH,)), ("q", (("repeat", 4001, "p"),)))
        for call in (programs_alike, is_program_less):
            self.assertEqual(raised(call, long, program(("p", ()))), TOO_MANY)
            self.assertEqual(raised(call, program(("p", ())), long), TOO_MANY)

    def test_no_part_place_step_contents(self):
        made = program(("p", (PUSH,)), ("main", (("repeat", 3, "p"), ADD)))
        for value in (None, "q", "P", ["p"], ("p",), 0, *ODD):
            self.assertEqual(raised(length_of, made, value), ("NoPart", value))
            self.assertEqual(raised(part_form, made, value), ("NoPart", value))
        for value in (None, -1, 5, "1", 4.0, *ODD):
            self.assertEqual(raised(step_at, made, value), ("NoPlace", value))
            self.assertEqual(raised(form_behind, made, value), ("NoPlace", value))
            self.assertEqual(raised(steps_left, made, value, None), ("NoPlace", value))
        self.assertEqual(raised(step_at, made, 4), ("NoPlace", 4))
        self.assertEqual(form_behind(made, 4), program_form(made))
        self.assertEqual(raised(step_at, program(("p", ())), 0), ("NoPlace", 0))
        for value in (None, ("s",), ("s", ("add", 1)), ("x", ("push", "a")), ["s", ("push", "a")], ("do", "s", ("push", "a")), *ODD):
            self.assertEqual(raised(times_done, made, value), ("NoStep", value))
        for value in (None, ((),), ((), 10), [(), 0], ((), True), (0, ()), ((), 0, 0), *ODD):
            for call in (does_work, program_left, failing_number):
                self.assertEqual(raised(call, made, value), ("NoContents", value))
            self.assertEqual(raised(steps_left, made, 0, value), ("NoContents", value))

    def test_sizes_of_what_is_drawn(self):
        # The contents of these tests are far below what is told at most, so plain runs tell all.
        self.assertLess(max(measured(kind, part) for kind in ALL_KINDS for part in SOME_CONTENTS[kind]), 10)

    def test_beside_rows_of_several_boxes(self):
        row = (("s", ("push", "a")), ("g", ("add", 5)), ("s", ("pop", "a")), ("g", ("add", 5)))
        made = Program.from_row(BOXES, row)
        for contents in (((), 0), (("b",), 4), ((), 5)):
            self.assertEqual(program_left(made, contents), all_left(BOXES, row, contents))
            self.assertEqual(failing_number(made, contents), first_failing(BOXES, row, contents))


if __name__ == "__main__":
    unittest.main()
