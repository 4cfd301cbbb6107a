"""Promise [0.2] over the whole program: one row done in each of its ways tells the same."""

import random
import unittest

from boxeffects.bench import Bench
from boxeffects.boxes import left_by_row
from boxeffects.classes import form_in, moved_left
from boxeffects.comparing import back_of, has_back, is_less
from boxeffects.console import Console
from boxeffects.forms import form_of, joined, left_by
from boxeffects.movedforms import first_parting_class, moved_alike, moved_less, put_together, table_of
from boxeffects.movedparting import moved_parting
from boxeffects.parting import accepts_part, does_part, part_paper, told_parting
from boxeffects.powers import left_behind, power_of
from boxeffects.programs import (
    Program,
    failing_number,
    is_program_less,
    part_form,
    program_form,
    program_left,
    programs_alike,
    steps_left,
)
from boxeffects.registers import failing_moved, load_left
from boxeffects.several import Boxes, all_left, first_failing, joined_mixed, mixed_alike, mixed_form, mixed_left
from boxeffects.signs import class_of, depths_of
from boxeffects.texts import read_text, write_text
from boxeffects.whereabouts import can_be_left, load_ahead
from small import ALL_KINDS, KIND_STEPS, SOME_CONTENTS, raised

# Of these kinds a desk can have boxes.
DESK_KINDS = [kind for kind in ALL_KINDS if kind[0] in ("stack", "queue", "tape", "ring") and kind[2:] != ("ignore",)]


def some_rows(seed, many, kinds):
    """Boxes of some of these kinds, names ascending, a mixed row of them, all contents, and what draws more."""
    draw = random.Random(seed)
    for _ in range(many):
        pairs = tuple((name, draw.choice(kinds)) for name in "abc"[:draw.randint(1, 3)])
        yield draw, pairs, row_of(draw, pairs), contents_of(draw, pairs)


def row_of(draw, pairs):
    named = [draw.choice(pairs) for _ in range(draw.randint(0, 6))]
    return tuple((name, draw.choice(KIND_STEPS[kind[0]])) for name, kind in named)


def contents_of(draw, pairs):
    return tuple(draw.choice(SOME_CONTENTS[kind]) for _, kind in pairs)


def times_left(boxes, row, times, contents):
    """What the row done so many times leaves, time by time."""
    for _ in range(times):
        contents = None if contents is None else all_left(boxes, row, contents)
    return contents


class OneRow(unittest.TestCase):
    def test_plainly_by_forms_by_a_program_by_a_bench(self):
        for draw, pairs, row, contents in some_rows(91, 400, ALL_KINDS):
            boxes = Boxes(pairs)
            left = all_left(boxes, row, contents)
            form = mixed_form(boxes, row)
            program = Program.from_row(boxes, row)
            self.assertEqual(mixed_left(boxes, form, contents) if form is not None else None, left)
            self.assertEqual(program_form(program), form)
            self.assertEqual(program_left(program, contents), left)
            self.assertEqual(failing_number(program, contents), first_failing(boxes, row, contents))
            self.assertEqual(steps_left(program, len(row), contents), left)
            bench = Bench(boxes, contents)
            self.assertEqual(raised(bench.do, row), None if left is not None else ("NoWork", None))
            self.assertEqual(bench.now(), contents if left is None else left)
            for (name, kind), part, place in zip(pairs, contents, range(3)):
                own = tuple(step for box, step in row if box == name)
                plain = left_by_row(kind, own, part)
                self.assertEqual(left_by(kind, form_of(kind, own), part) if form_of(kind, own) is not None else None, plain)
                if left is not None:
                    self.assertEqual(left[place], plain)

    def test_repeated_by_powers_by_a_program_by_a_bench(self):
        for draw, pairs, row, contents in some_rows(92, 300, ALL_KINDS):
            boxes, times = Boxes(pairs), draw.randint(1, 5)
            left = times_left(boxes, row, times, contents)
            acts = Program.from_row(boxes, row).acts_of("main")
            program = Program(boxes, [("p", acts), ("main", (("repeat", times, "p"),))])
            self.assertEqual(program_left(program, contents), left)
            bench = Bench(boxes, contents)
            self.assertEqual(raised(bench.repeat, row, times), None if left is not None else ("NoWork", None))
            self.assertEqual(bench.now(), contents if left is None else left)
            forms = mixed_form(boxes, row)
            if forms is None:
                continue
            power = [power_of(kind, form, times) for (_, kind), form in zip(pairs, forms)]
            self.assertEqual(program_form(program), None if None in power else tuple(power))
            behind = [left_behind(kind, form, times, part) for (_, kind), form, part in zip(pairs, forms, contents)]
            self.assertEqual(None if None in behind else tuple(behind), left)
            if left is not None:
                self.assertEqual(bench.form_between(0, 1), tuple(power))

    def test_as_a_moved_row_without_registers(self):
        for _, pairs, row, contents in some_rows(93, 400, DESK_KINDS):
            desk, boxes = (pairs, ()), Boxes(pairs)
            left = all_left(boxes, row, contents)
            load = (contents, ())
            depths = depths_of(desk, row)
            cls = class_of(desk, depths, load)
            form = form_in(desk, row, depths, cls)
            told = None if left is None else (left, ())
            self.assertEqual(load_left(desk, row, load), told)
            self.assertEqual(moved_left(desk, depths, cls, form, load), told)
            self.assertEqual(failing_moved(desk, row, load), first_failing(boxes, row, contents))
            if told is not None:
                self.assertIs(can_be_left(desk, row, depths, cls, told), True)
                self.assertEqual(load_left(desk, row, load_ahead(desk, row, depths, cls, told)), told)

    def test_alike_and_less_in_each_way(self):
        for draw, pairs, row, _ in some_rows(94, 300, DESK_KINDS):
            other = row_of(draw, pairs) if draw.random() < 0.3 else row[1:] + row[:1]
            desk, boxes = (pairs, ()), Boxes(pairs)
            alike = mixed_alike(boxes, row, other)
            one, two = Program.from_row(boxes, row), Program.from_row(boxes, other)
            self.assertIs(programs_alike(one, two), alike)
            self.assertIs(moved_alike(desk, row, other), alike)
            self.assertIs(moved_parting(desk, row, other) is None, alike)
            self.assertIs(first_parting_class(desk, row, other) is None, alike)
            self.assertIs(moved_less(desk, row, other), is_program_less(one, two))
            for name, kind in pairs:
                owns = [tuple(step for box, step in each if box == name) for each in (row, other)]
                parted = told_parting(kind, *owns)
                self.assertIs(parted is None, form_of(kind, owns[0]) == form_of(kind, owns[1]))
                self.assertIs(parted is not None and does_part(kind, *owns, parted), parted is not None)
                self.assertIs(accepts_part(kind, *owns, part_paper(kind, *owns)), True)

    def test_put_together_in_each_way(self):
        for draw, pairs, row, contents in some_rows(95, 200, DESK_KINDS):
            other = row_of(draw, pairs)
            desk, boxes = (pairs, ()), Boxes(pairs)
            both = mixed_form(boxes, row + other)
            self.assertEqual(joined_mixed(boxes, mixed_form(boxes, row), mixed_form(boxes, other)), both)
            acts = [Program.from_row(boxes, each).acts_of("main") for each in (row, other)]
            program = Program(boxes, [("p", acts[0]), ("q", acts[1]), ("main", (("call", "p"), ("call", "q")))])
            self.assertEqual(program_form(program), both)
            self.assertEqual(part_form(program, "p"), mixed_form(boxes, row))
            depths = tuple(max(pair) for pair in zip(depths_of(desk, row), depths_of(desk, row + other)))
            second = depths_of(desk, other)
            told = put_together(desk, depths, table_of(desk, row, depths), second, table_of(desk, other, second))
            self.assertEqual(told, table_of(desk, row + other, depths))
            bench = Bench(boxes, contents)
            if raised(bench.do, row) is None and raised(bench.do, other) is None:
                self.assertEqual(bench.now(), all_left(boxes, row + other, contents))
                self.assertEqual(bench.form_between(0, 2), both)

    def test_led_back_and_less(self):
        for draw, pairs, row, contents in some_rows(96, 300, ALL_KINDS):
            for (name, kind), part in zip(pairs, contents):
                form = form_of(kind, tuple(step for box, step in row if box == name))
                if form is None or not has_back(kind, form):
                    continue
                left = left_by(kind, form, part)
                if left is not None:
                    self.assertEqual(left_by(kind, back_of(kind, form), left), part)
                self.assertIs(is_less(kind, joined(kind, form, back_of(kind, form)), form_of(kind, ())), True)


class Told(unittest.TestCase):
    def test_texts_of_all_that_is_told(self):
        for _, pairs, row, contents in some_rows(97, 150, ALL_KINDS):
            boxes = Boxes(pairs)
            parts = Program.from_row(boxes, row).parts()
            for thing in (("mixed", pairs, row), ("all", pairs, contents), ("forms", pairs, mixed_form(boxes, row)), ("program", pairs, parts)):
                self.assertEqual(read_text(write_text(thing)), thing)

    def test_by_the_console(self):
        for draw, pairs, row, contents in some_rows(98, 100, ALL_KINDS):
            console, bench = Console(), Bench(Boxes(pairs), contents)
            for thing, lines in ((("all", pairs, contents), ("begin",)), (("mixed", pairs, row), ("row", "repeat 2"))):
                console.run("drop")
                for line in write_text(thing).split("\n"):
                    console.run("+" + line)
                told = [console.run(line) for line in lines]
            done = [raised(bench.do, row), raised(bench.repeat, row, 2)]
            self.assertEqual(told, ["ok" if error is None else "error" for error in done])
            now = write_text(("all", pairs, bench.now())).split("\n")[-len(pairs):]
            self.assertEqual([name + " " + console.run("now " + name) for name, _ in pairs], now)

    def test_a_trial_that_is_not_kept_leaves_all_as_it_was(self):
        for draw, pairs, row, contents in some_rows(99, 150, ALL_KINDS):
            bench = Bench(Boxes(pairs), contents)
            raised(bench.do, row)
            held, now, many = bench.twin(), bench.now(), len(bench)
            bench.trying(lambda made: [raised(made.do, row_of(draw, pairs)) for _ in range(3)] + [raised(made.undo)])
            self.assertEqual((bench, bench.now(), len(bench)), (held, now, many))

    def test_deeds_taken_back_leave_the_contents_and_the_line_so(self):
        for draw, pairs, row, contents in some_rows(100, 150, ALL_KINDS):
            bench = Bench(Boxes(pairs), contents)
            states = [(bench.deeds(), bench.now())]
            for _ in range(4):
                if raised(bench.do, row_of(draw, pairs)) is None:
                    states.append((bench.deeds(), bench.now()))
            for state in reversed(states[:-1]):
                bench.undo()
                self.assertEqual((bench.deeds(), bench.now()), state)
            for state in states[1:]:
                bench.redo()
                self.assertEqual((bench.deeds(), bench.now()), state)


if __name__ == "__main__":
    unittest.main()
