"""Promise [0.1]: arguments by name, copies, new lists, bools, like calls, numbers that are no truths."""

import copy
import unittest

from boxeffects import (
    bench, boxes, classes, comparing, console, forms, gauges, heaps, kinds, movedforms, movedparting, parting, powers,
    programs, queuepowers, queues, registers, rings, several, signs, stacks, tables, tapes, texts, whereabouts,
)
from small import raised

STACK = ("stack",)
PUSH = (("push", "a"), ("push", "b"), ("pop", "c"))
PUT = (("put", "a"), ("take", "b"))
QUEUE_FORM = (("a",), ("a", "b"), 1)
RING = ("ring", 2, "ignore")
RING_ROW = (("put", "a"), ("put", "b"), ("take",))
RING_FORM = ((0, ("b",)), None, (1, ()))
WALK = (("a", "b"), 1, (0, 1), 0, 1)
TAPE_ROW = (("write", "a"), ("right",), ("expect", "b"))
TAPE_FORM = (1, ((0, "a"),), ((1, "b"),))
HEAP_ROW = (("least",), ("insert", 5), ("insert", 1))
HEAP_FORM = (1, ((None, -1, 0), (1, 0, 1), (5, 1, 2)))
STOP = ("gauge", 9, "stop")
FAIL = ("gauge", 9, "fail")
TABLE_FORM = ((("n", None),), (("m", "x"),))
PAIRS = (("s", STACK), ("g", FAIL))
BOXES = several.Boxes(PAIRS)
MIXED = (("g", ("add", 5)), ("s", ("push", "a")), ("g", ("add", 5)))
OTHER = (("s", ("push", "a")), ("g", ("add", 5)), ("g", ("add", 5)))
MIXED_FORM = (((), ("a",)), (0, 5, 4))
GROWING = (("a",), ("a", "b"))
DESK = ((("q", ("queue",)), ("s", STACK)), ("r",))
MOVED = (("s", ("draw", "r")), ("is", "r", "a"), ("q", ("lay", "r")))
LOAD = (((), ("a", "b")), ("k",))
DEPTHS, CLS = (0, 1), (0, 1)
MOVED_FORM = classes.form_in(DESK, MOVED, DEPTHS, CLS)
TABLE = movedforms.table_of(DESK, MOVED, DEPTHS)
DRAWN = (("s", ("draw", "r")),)
LEFT = ((("a",), ("b",)), ("a",))
PARTS = (("p", (("do", "s", ("push", "a")), ("do", "g", ("add", 1)))), ("main", (("repeat", 3, "p"), ("call", "p"))))
PROGRAM = programs.Program(BOXES, PARTS)
OTHER_PROGRAM = programs.Program(BOXES, PARTS[:1])
TEXT = "kind stack\nrow\npush a"


def a_bench():
    """A bench on which a row was done twice, and a third one taken back."""
    made = bench.Bench(BOXES, ((), 0))
    made.do(MIXED[1:])
    made.repeat(MIXED[1:2], 2)
    made.do(MIXED[1:2])
    made.undo()
    return made


BENCH = a_bench()

# Each function, with arguments by name, in the order of the interface.
CALLS = (
    (kinds.is_letter, {"value": "a"}),
    (kinds.is_kind, {"value": STACK}),
    (kinds.is_step, {"kind": STACK, "value": ("push", "a")}),
    (kinds.is_row, {"kind": STACK, "value": PUSH}),
    (kinds.is_contents, {"kind": STACK, "value": ("a",)}),
    (kinds.size_of, {"kind": STACK, "contents": ("a",)}),
    (kinds.under_head, {"contents": (((1, "b"),), "a"), "place": 1}),
    (kinds.new_letter, {"letters": ["a"]}),
    (boxes.left_by_row, {"kind": STACK, "row": PUSH[:2], "contents": ("a",)}),
    (boxes.failing_step, {"kind": STACK, "row": PUSH, "contents": ("a",)}),
    (boxes.course_of, {"kind": STACK, "row": PUSH, "contents": ("a",)}),
    (stacks.stack_form, {"row": PUSH[:2]}),
    (stacks.stack_then, {"one": ((), ("a",)), "other": (("a", "b"), ())}),
    (stacks.is_stack_form, {"value": ((), ())}),
    (stacks.stack_works, {"form": (("a",), ()), "contents": ("a", "b")}),
    (stacks.stack_left, {"form": (("a",), ()), "contents": ("a", "b")}),
    (stacks.stack_partners, {"row": PUSH}),
    (stacks.stack_clash, {"row": PUSH}),
    (stacks.shows_stack_clash, {"row": PUSH, "value": (1, 2)}),
    (queues.queue_form, {"row": PUT}),
    (queues.queue_then, {"one": QUEUE_FORM, "other": ((), ("c",), 0)}),
    (queues.is_queue_form, {"value": QUEUE_FORM}),
    (queues.normal_least, {"u": ("a", "b"), "v": ("b",), "d": 0}),
    (queues.queue_works, {"form": QUEUE_FORM, "contents": ("a",)}),
    (queues.queue_left, {"form": QUEUE_FORM, "contents": ("a",)}),
    (queues.queue_shorts, {"form": (("a",), ("a",), 0)}),
    (queues.bears_length, {"row": PUT, "length": 0}),
    (queues.queue_clash, {"row": PUT, "length": 0}),
    (queues.shows_queue_clash, {"row": PUT, "length": 0, "value": ("unlike", 0, 1)}),
    (queues.queue_source, {"row": PUT, "length": 1, "number": 0}),
    (queuepowers.power_least, {"form": QUEUE_FORM, "times": 3}),
    (queuepowers.power_works, {"form": QUEUE_FORM, "times": 1, "contents": ("a",)}),
    (queuepowers.power_length, {"form": QUEUE_FORM, "times": 1, "contents": ("a",)}),
    (queuepowers.power_letter, {"form": QUEUE_FORM, "times": 1, "contents": ("a",), "index": 1}),
    (queuepowers.power_left, {"form": QUEUE_FORM, "times": 1, "contents": ("a",)}),
    (queuepowers.powers_alike, {"one": QUEUE_FORM, "times": 2, "other": QUEUE_FORM, "more": 3}),
    (queuepowers.most_times, {"form": QUEUE_FORM, "contents": ("a",)}),
    (queuepowers.endless_contents, {"form": (("a",), ("a",), 1), "length": 2}),
    (rings.ring_form, {"kind": RING, "row": RING_ROW}),
    (rings.is_ring_form, {"kind": RING, "value": RING_FORM}),
    (rings.ring_then, {"kind": RING, "one": RING_FORM, "other": ((0, ("c",)), (1, ("c",)), None)}),
    (rings.ring_works, {"kind": RING, "form": RING_FORM, "contents": ("a", "c")}),
    (rings.ring_left, {"kind": RING, "form": RING_FORM, "contents": ("a", "c")}),
    (rings.walk_of, {"row": RING_ROW}),
    (rings.is_walk, {"value": WALK}),
    (rings.walk_then, {"one": WALK, "other": ((), 1, (), 1, 1)}),
    (rings.ring_by_walk, {"kind": RING, "walk": WALK}),
    (rings.row_by_walk, {"walk": WALK}),
    (rings.spilt_by, {"kind": RING, "row": RING_ROW, "length": 1}),
    (rings.least_ring, {"row": RING_ROW, "length": 1}),
    (tapes.tape_form, {"row": TAPE_ROW}),
    (tapes.is_tape_form, {"value": TAPE_FORM}),
    (tapes.tape_then, {"one": TAPE_FORM, "other": (2, (), ((0, "c"),))}),
    (tapes.tape_works, {"form": TAPE_FORM, "contents": ((), "a")}),
    (tapes.tape_left, {"form": TAPE_FORM, "contents": ((), "a")}),
    (tapes.tape_known, {"form": TAPE_FORM}),
    (tapes.tape_needs, {"form": TAPE_FORM, "wanted": [(0, "b"), (5, "c")]}),
    (tapes.tapes_meet, {"one": TAPE_FORM, "other": (2, ((3, "c"),), ())}),
    (tapes.tapes_agree, {"one": TAPE_FORM, "other": (2, ((3, "c"),), ())}),
    (tapes.tape_clash, {"row": (("write", "a"), ("expect", "b"))}),
    (tapes.accepts_clash, {"row": (("write", "a"), ("expect", "b")), "paper": (0, 1)}),
    (heaps.heap_form, {"row": HEAP_ROW}),
    (heaps.heap_then, {"one": HEAP_FORM, "other": (0, ((None, 0, 0), (3, 1, 1)))}),
    (heaps.is_heap_form, {"value": HEAP_FORM}),
    (heaps.heap_works, {"form": HEAP_FORM, "contents": (7,)}),
    (heaps.heap_left, {"form": HEAP_FORM, "contents": (7,)}),
    (heaps.left_many, {"form": HEAP_FORM, "contents": (7,)}),
    (heaps.left_kth, {"form": HEAP_FORM, "contents": (7,), "place": 1}),
    (heaps.taken_by, {"form": HEAP_FORM, "contents": (7,)}),
    (heaps.count_behind, {"form": HEAP_FORM, "t": 1, "many": 3}),
    (heaps.sure_numbers, {"form": HEAP_FORM}),
    (heaps.risked_numbers, {"form": HEAP_FORM}),
    (heaps.told_heap_row, {"form": HEAP_FORM}),
    (heaps.least_road, {"contents": (1, 2), "other": (2, 3)}),
    (gauges.gauge_form, {"kind": STOP, "row": (("add", 5), ("sub", 3))}),
    (gauges.gauge_then, {"kind": STOP, "one": (2, 2, 6), "other": (0, -1, 8)}),
    (gauges.is_gauge_form, {"kind": STOP, "value": (2, 2, 6)}),
    (gauges.gauge_works, {"kind": FAIL, "form": (0, 2, 4), "contents": 3}),
    (gauges.gauge_left, {"kind": FAIL, "form": (0, 2, 4), "contents": 3}),
    (gauges.gauge_origin, {"kind": STOP, "form": (2, 2, 6), "number": 6}),
    (gauges.gauge_stops, {"kind": STOP, "row": (("add", 5), ("sub", 3)), "contents": 7}),
    (gauges.gauge_depth, {"kind": FAIL, "row": (("add", 5), ("sub", 8))}),
    (tables.table_form, {"row": (("absent", "n"), ("set", "m", "x"))}),
    (tables.table_then, {"one": TABLE_FORM, "other": ((), (("n", "x"),))}),
    (tables.table_common, {"one": TABLE_FORM, "other": ((("m", "y"),), ())}),
    (tables.can_change_places, {"one": TABLE_FORM, "other": ((), (("n", "x"),))}),
    (tables.is_table_form, {"value": TABLE_FORM}),
    (tables.table_works, {"form": TABLE_FORM, "contents": (("o", "x"),)}),
    (tables.table_left, {"form": TABLE_FORM, "contents": (("o", "x"),)}),
    (tables.table_row, {"form": TABLE_FORM}),
    (forms.form_of, {"kind": STACK, "row": PUSH[:2]}),
    (forms.empty_form, {"kind": STACK}),
    (forms.is_form, {"kind": STACK, "value": ((), ())}),
    (forms.joined, {"kind": STACK, "one": ((), ("a",)), "other": (("a", "b"), ())}),
    (forms.joined_all, {"kind": STACK, "forms": [((), ("a",)), (("a", "b"), ())]}),
    (forms.works_on, {"kind": STACK, "form": (("a",), ()), "contents": ("a", "b")}),
    (forms.left_by, {"kind": STACK, "form": (("a",), ()), "contents": ("a", "b")}),
    (forms.rows_alike, {"kind": STACK, "one": PUSH[:2], "other": PUSH}),
    (several.Boxes, {"pairs": [("s", STACK), ("g", FAIL)]}),
    (BOXES.names, {}),
    (BOXES.kind_of, {"name": "g"}),
    (BOXES.has_step, {"value": ("s", ("push", "a"))}),
    (several.own_row, {"boxes": BOXES, "row": MIXED, "name": "g"}),
    (several.all_left, {"boxes": BOXES, "row": MIXED[:2], "contents": ((), 1)}),
    (several.first_failing, {"boxes": BOXES, "row": MIXED, "contents": ((), 1)}),
    (several.failing_of, {"boxes": BOXES, "row": MIXED, "contents": ((), 1)}),
    (several.mixed_form, {"boxes": BOXES, "row": MIXED[:2]}),
    (several.is_mixed_form, {"boxes": BOXES, "value": MIXED_FORM}),
    (several.joined_mixed, {"boxes": BOXES, "one": MIXED_FORM, "other": ((("a", "b"), ()), (3, 1, 6))}),
    (several.mixed_works, {"boxes": BOXES, "form": MIXED_FORM, "contents": ((), 1)}),
    (several.mixed_left, {"boxes": BOXES, "form": MIXED_FORM, "contents": ((), 1)}),
    (several.mixed_alike, {"boxes": BOXES, "one": MIXED, "other": OTHER}),
    (several.parting_box, {"boxes": BOXES, "one": MIXED[:1], "other": MIXED[:2]}),
    (several.same_but_order, {"boxes": BOXES, "one": MIXED, "other": OTHER}),
    (several.least_exchanges, {"boxes": BOXES, "one": MIXED, "other": OTHER}),
    (several.told_exchanges, {"boxes": BOXES, "one": MIXED, "other": OTHER}),
    (several.leads_by, {"boxes": BOXES, "one": MIXED, "other": OTHER, "value": [0]}),
    (several.orderly_row, {"boxes": BOXES, "row": MIXED}),
    (several.how_many_orders, {"boxes": BOXES, "row": MIXED}),
    (comparing.is_less, {"kind": STACK, "one": (("a",), ("a",)), "other": ((), ())}),
    (comparing.are_comparable, {"kind": STACK, "one": (("a",), ("a",)), "other": ((), ())}),
    (comparing.has_back, {"kind": STACK, "form": GROWING}),
    (comparing.back_of, {"kind": STACK, "form": GROWING}),
    (comparing.shortest_row, {"kind": STACK, "form": GROWING}),
    (comparing.shortest_steps, {"kind": STACK, "form": GROWING}),
    (comparing.is_shortest, {"kind": STACK, "row": PUSH}),
    (powers.power_of, {"kind": STACK, "form": GROWING, "n": 3}),
    (powers.is_power_nowhere, {"kind": STACK, "form": GROWING, "n": 3}),
    (powers.repeats_at, {"kind": STOP, "form": (2, 2, 6)}),
    (powers.lasting, {"kind": STACK, "form": (("a",), ()), "contents": ("a", "a")}),
    (powers.works_behind, {"kind": STACK, "form": GROWING, "n": 3, "contents": ("a",)}),
    (powers.size_behind, {"kind": STACK, "form": GROWING, "n": 3, "contents": ("a",)}),
    (powers.letter_behind, {"kind": STACK, "form": GROWING, "n": 3, "contents": ("a",), "place": 2}),
    (powers.left_behind, {"kind": STACK, "form": GROWING, "n": 3, "contents": ("a",)}),
    (registers.is_desk, {"value": DESK}),
    (registers.is_load, {"desk": DESK, "value": LOAD}),
    (registers.is_moved_step, {"desk": DESK, "value": MOVED[0]}),
    (registers.is_moved_row, {"desk": DESK, "value": MOVED}),
    (registers.load_left, {"desk": DESK, "row": MOVED, "load": LOAD}),
    (registers.failing_moved, {"desk": DESK, "row": MOVED + (("is", "r", "b"),), "load": LOAD}),
    (registers.loads_along, {"desk": DESK, "row": MOVED, "load": LOAD}),
    (registers.met_boxes, {"desk": DESK, "row": MOVED}),
    (registers.met_registers, {"desk": DESK, "row": MOVED}),
    (registers.first_read, {"desk": DESK, "row": MOVED}),
    (signs.depths_of, {"desk": DESK, "row": MOVED}),
    (signs.classes_at, {"desk": DESK, "depths": (2, 1)}),
    (signs.class_of, {"desk": DESK, "depths": (2, 1), "load": LOAD}),
    (signs.signs_of, {"desk": DESK, "row": MOVED, "depths": (2, 1), "cls": (2, 0)}),
    (classes.form_in, {"desk": DESK, "row": MOVED, "depths": DEPTHS, "cls": CLS}),
    (classes.is_moved_form, {"desk": DESK, "depths": DEPTHS, "cls": CLS, "value": MOVED_FORM}),
    (classes.moved_works, {"desk": DESK, "depths": DEPTHS, "cls": CLS, "form": MOVED_FORM, "load": LOAD}),
    (classes.moved_left, {"desk": DESK, "depths": DEPTHS, "cls": CLS, "form": MOVED_FORM, "load": LOAD}),
    (classes.told_load, {"desk": DESK, "depths": DEPTHS, "cls": CLS, "form": MOVED_FORM}),
    (movedforms.table_of, {"desk": DESK, "row": MOVED, "depths": DEPTHS}),
    (movedforms.shared_depths, {"desk": DESK, "one": MOVED, "other": DRAWN}),
    (movedforms.moved_alike, {"desk": DESK, "one": MOVED, "other": DRAWN}),
    (movedforms.first_parting_class, {"desk": DESK, "one": MOVED, "other": DRAWN}),
    (movedforms.moved_less, {"desk": DESK, "one": MOVED, "other": DRAWN}),
    (movedforms.is_table, {"desk": DESK, "depths": DEPTHS, "value": TABLE}),
    (movedforms.put_together, {"desk": DESK, "depths": DEPTHS, "table": TABLE, "other_depths": (0, 0),
                               "other": movedforms.table_of(DESK, (), (0, 0))}),
    (whereabouts.terms_behind, {"desk": DESK, "row": MOVED, "depths": DEPTHS, "cls": CLS}),
    (whereabouts.whereabouts, {"desk": DESK, "row": MOVED, "depths": DEPTHS, "cls": CLS}),
    (whereabouts.lost_parts, {"desk": DESK, "row": MOVED, "depths": DEPTHS, "cls": CLS}),
    (whereabouts.loses_nothing, {"desk": DESK, "row": MOVED, "depths": DEPTHS, "cls": CLS}),
    (whereabouts.can_be_left, {"desk": DESK, "row": MOVED, "depths": DEPTHS, "cls": CLS, "load": LEFT}),
    (whereabouts.load_ahead, {"desk": DESK, "row": MOVED, "depths": DEPTHS, "cls": CLS, "load": LEFT}),
    (whereabouts.do_meet, {"desk": DESK, "row": (), "depths": DEPTHS, "one": (0, 0), "other": (0, 1)}),
    (whereabouts.is_one_to_one, {"desk": DESK, "row": MOVED}),
    (whereabouts.merged_paper, {"desk": DESK, "row": MOVED}),
    (whereabouts.accepts_merged, {"desk": DESK, "row": MOVED, "value": whereabouts.merged_paper(DESK, MOVED)}),
    (parting.fresh_letters, {"rows": [PUSH], "many": 2}),
    (parting.does_part, {"kind": STACK, "one": PUSH[:1], "other": PUSH[:2], "contents": ("a",)}),
    (parting.trials_for, {"kind": STACK, "one": PUSH[:1], "other": PUSH[:2]}),
    (parting.told_parting, {"kind": STACK, "one": PUSH[:1], "other": PUSH[:2]}),
    (parting.part_paper, {"kind": STACK, "one": PUSH[:1], "other": PUSH[:2]}),
    (parting.accepts_part, {"kind": STACK, "one": PUSH[:1], "other": PUSH[:2], "value": ("parts", (), ("a",), ("b", "a"))}),
    (parting.told_key, {"kind": STACK, "rows": [PUSH[:1], PUSH[:2]]}),
    (movedparting.moved_trials, {"desk": DESK, "one": MOVED, "other": DRAWN}),
    (movedparting.moved_parting, {"desk": DESK, "one": MOVED, "other": DRAWN}),
    (movedparting.moved_does_part, {"desk": DESK, "one": MOVED, "other": DRAWN, "load": LOAD}),
    (programs.Program, {"boxes": BOXES, "parts": PARTS}),
    (programs.Program.from_row, {"boxes": BOXES, "row": MIXED}),
    (PROGRAM.boxes, {}),
    (PROGRAM.parts, {}),
    (PROGRAM.names, {}),
    (PROGRAM.acts_of, {"name": "p"}),
    (programs.reached_parts, {"program": PROGRAM}),
    (programs.length_of, {"program": PROGRAM, "name": "p"}),
    (programs.step_at, {"program": PROGRAM, "k": 5}),
    (programs.times_done, {"program": PROGRAM, "step": ("g", ("add", 1))}),
    (programs.shown_row, {"program": PROGRAM}),
    (programs.part_form, {"program": PROGRAM, "name": "p"}),
    (programs.program_form, {"program": PROGRAM}),
    (programs.form_behind, {"program": PROGRAM, "k": 5}),
    (programs.does_work, {"program": PROGRAM, "contents": ((), 1)}),
    (programs.program_left, {"program": PROGRAM, "contents": ((), 1)}),
    (programs.failing_number, {"program": PROGRAM, "contents": ((), 7)}),
    (programs.steps_left, {"program": PROGRAM, "k": 5, "contents": ((), 7)}),
    (programs.programs_alike, {"one": PROGRAM, "other": OTHER_PROGRAM}),
    (programs.is_program_less, {"one": PROGRAM, "other": OTHER_PROGRAM}),
    (programs.idle_acts, {"program": PROGRAM}),
    (texts.is_thing, {"value": ("row", STACK, PUSH)}),
    (texts.write_text, {"thing": ("row", STACK, PUSH)}),
    (texts.read_text, {"text": TEXT}),
    (texts.lines_due, {"text": TEXT}),
    (bench.Bench, {"boxes": BOXES, "contents": ((), 0)}),
    (BENCH.boxes, {}),
    (BENCH.now, {}),
    (BENCH.deeds, {}),
    (BENCH.was, {"moment": 1}),
    (BENCH.form_between, {"one": 0, "other": 1}),
    (BENCH.twin, {}),
    (console.Console().run, {"line": "fits"}),
)
TRUTHS = ("is_", "shows_", "accepts_", "bears_", "has_", "can_", "leads_", "same_", "works_", "are_", "does_", "do_", "loses_")
TRUTHS_TOO = ("_works", "_alike", "_agree", "_less", "_does_part")
# Of these it is told where in the list a value is wrong, None if it is no list or text at all.
LISTS = ("letters", "forms", "pairs", "rows", "parts", "text")
# Each method that changes something, with arguments by name, and how many deeds there are behind it.
DOING = (
    ("do", {"row": MIXED[1:2]}, 3),
    ("repeat", {"row": MIXED[1:2], "times": 2}, 3),
    ("undo", {}, 1),
    ("redo", {}, 3),
    ("undo_of", {"name": "s"}, 1),
)


class Calls(unittest.TestCase):
    def test_by_position_and_by_name_in_any_order(self):
        for call, named in CALLS:
            with self.subTest(call=call.__name__):
                told = call(*named.values())
                self.assertIsNotNone(told)
                self.assertEqual(call(**named), told)
                self.assertEqual(call(**dict(reversed(named.items()))), told)
                if not named:
                    continue
                first = next(iter(named))
                rest = {name: named[name] for name in named if name != first}
                self.assertEqual(call(named[first], **rest), told)

    def test_no_argument_more_or_less(self):
        for call, named in CALLS:
            with self.assertRaises(TypeError):
                call(*named.values(), None)
            if named:
                with self.assertRaises(TypeError):
                    call(*list(named.values())[1:])

    def test_truths_are_bools(self):
        for call, named in CALLS:
            name = call.__name__
            told = call(**named)
            self.assertEqual(isinstance(told, bool), name.startswith(TRUTHS) or name.endswith(TRUTHS_TOO), name)

    def test_what_was_handed_in_stays_as_it_was(self):
        for call, named in CALLS:
            held = copy.deepcopy(named)
            call(**named)
            self.assertEqual(named, held)

    def test_returned_lists_and_dicts_are_new_ones(self):
        for call, named in CALLS:
            told = call(**named)
            if isinstance(told, (list, dict)):
                held = copy.deepcopy(told)
                told.clear()
                self.assertEqual(call(**named), held)

    def test_lists_changed_afterwards_change_nothing(self):
        letters = ["a", "b"]
        told = kinds.new_letter(letters)
        letters.append("c")
        self.assertEqual(told, "c")
        self.assertEqual(kinds.new_letter(letters), "d")
        wanted = [(1, "b")]
        told = tapes.tape_needs((0, (), ()), wanted)
        wanted.append((2, "c"))
        self.assertEqual(told, ((1, "b"),))
        self.assertEqual(tapes.tape_needs((0, (), ()), wanted), ((1, "b"), (2, "c")))

    def test_lists_and_dicts_of_the_later_stages_changed_afterwards(self):
        parts = list(PARTS)
        program = programs.Program(BOXES, parts)
        parts.append(("more", ()))
        self.assertEqual(program, PROGRAM)
        names = program.names()
        names.append("more")
        self.assertEqual(program.names(), ["p", "main"])
        deeds = BENCH.deeds()
        deeds.pop()
        self.assertEqual(len(BENCH.deeds()), 2)
        table = movedforms.table_of(DESK, MOVED, DEPTHS)
        told = movedforms.put_together(DESK, DEPTHS, table, (0, 0), movedforms.table_of(DESK, (), (0, 0)))
        table[CLS] = None
        self.assertEqual(told, TABLE)
        pairs = [("s", STACK)]
        made = several.Boxes(pairs)
        pairs[0] = ("q", ("queue",))
        self.assertEqual(made.names(), ["s"])

    def test_what_changes_something_returns_none(self):
        for name, named, deeds in DOING:
            for given in (named, dict(reversed(named.items()))):
                one, other = a_bench(), a_bench()
                self.assertIsNone(getattr(one, name)(**given))
                self.assertIsNone(getattr(other, name)(*named.values()))
                self.assertEqual((len(one), one), (deeds, other))
                with self.assertRaises(TypeError):
                    getattr(one, name)(*named.values(), None)

    def test_calls_that_raise_change_nothing(self):
        made = a_bench()
        for name, named, _ in DOING[:2]:
            for key in named:
                self.assertIsNotNone(raised(getattr(made, name), **{**named, key: None}))
        self.assertEqual(raised(made.undo_of, name="x"), ("NoBox", "x"))
        self.assertEqual(raised(made.do, row=(("g", ("add", 9)),)), ("NoWork", None))
        self.assertEqual((made, made.now()), (a_bench(), a_bench().now()))
        made.redo()
        self.assertEqual(len(made), 3)

    def test_the_parameter_behind_the_star_only_by_name(self):
        made = a_bench()
        self.assertEqual(made.trying(guest=len), 0)
        self.assertEqual(made.trying(kept=True, guest=lambda bench: bench.do(MIXED[1:2])), None)
        self.assertEqual(len(made), 3)
        with self.assertRaises(TypeError):
            made.trying(len, True)

    def test_objects_are_equal_only_to_their_own_class(self):
        objects = [BOXES, PROGRAM, BENCH, console.Console(), PAIRS, PARTS, None]
        for one in objects:
            self.assertEqual([other == one for other in objects], [other is one for other in objects])
        self.assertEqual(several.Boxes(list(PAIRS)), BOXES)
        self.assertNotEqual(several.Boxes(PAIRS[::-1]), BOXES)

    def test_true_and_false_are_no_numbers_and_nothing_else(self):
        for call, named in CALLS:
            for name in named:
                for value in (True, False):
                    given = {**named, name: value}
                    with self.subTest(call=call.__name__, given=given):
                        self.check_refused(call, name, given)

    def check_refused(self, call, name, given):
        told = raised(call, **given)
        if told is None:
            # What takes any value tells that it is none.
            self.assertIn(name, ("value", "paper"))
            self.assertIs(call(**given), False)
        elif call is queues.normal_least:
            self.assertEqual(told, ("NoForm", tuple(given.values())))
        else:
            self.assertIs(told[1], None if name in LISTS else given[name])


if __name__ == "__main__":
    unittest.main()
