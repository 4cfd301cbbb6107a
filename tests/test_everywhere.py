"""Promise [0.1]: arguments by name, copies, new lists, bools, like calls, numbers that are no truths."""

import copy
import unittest

from boxeffects import (
    boxes, comparing, forms, gauges, heaps, kinds, powers, queuepowers, queues, registers, rings, several, signs,
    stacks, tables, tapes,
)
from small import raised

STACK = ("stack",)
PUSH = (("push", "a"), ("push", "b"), ("pop", "c"))
PUT = (("put", "a"), ("take", "b"))
QUEUE_FORM = (("a",), ("a", "b"), 1)
RING = ("ring", 2, "ignore")
RING_ROW = (("put", "a"), ("put", "b"), ("take",))
RING_FORM = ((0, ("b",)), None, (1, ()))
WALK = (("a", "b"), 1, (0, 1), 0, 1)
TAPE_ROW = (("write", "a"), ("right",), ("expect", "b"))
TAPE_FORM = (1, ((0, "a"),), ((1, "b"),))
HEAP_ROW = (("least",), ("insert", 5), ("insert", 1))
HEAP_FORM = (1, ((None, -1, 0), (1, 0, 1), (5, 1, 2)))
STOP = ("gauge", 9, "stop")
FAIL = ("gauge", 9, "fail")
TABLE_FORM = ((("n", None),), (("m", "x"),))
PAIRS = (("s", STACK), ("g", FAIL))
BOXES = several.Boxes(PAIRS)
MIXED = (("g", ("add", 5)), ("s", ("push", "a")), ("g", ("add", 5)))
OTHER = (("s", ("push", "a")), ("g", ("add", 5)), ("g", ("add", 5)))
MIXED_FORM = (((), ("a",)), (0, 5, 4))
GROWING = (("a",), ("a", "b"))
DESK = ((("q", ("queue",)), ("s", STACK)), ("r",))
MOVED = (("s", ("draw", "r")), ("is", "r", "a"), ("q", ("lay", "r")))
LOAD = (((), ("a", "b")), ("k",))

# Each function, with arguments by name, in the order of the interface.
CALLS = (
    (kinds.is_letter, {"value": "a"}),
    (kinds.is_kind, {"value": STACK}),
    (kinds.is_step, {"kind": STACK, "value": ("push", "a")}),
    (kinds.is_row, {"kind": STACK, "value": PUSH}),
    (kinds.is_contents, {"kind": STACK, "value": ("a",)}),
    (kinds.size_of, {"kind": STACK, "contents": ("a",)}),
    (kinds.under_head, {"contents": (((1, "b"),), "a"), "place": 1}),
    (kinds.new_letter, {"letters": ["a"]}),
    (boxes.left_by_row, {"kind": STACK, "row": PUSH[:2], "contents": ("a",)}),
    (boxes.failing_step, {"kind": STACK, "row": PUSH, "contents": ("a",)}),
    (boxes.course_of, {"kind": STACK, "row": PUSH, "contents": ("a",)}),
    (stacks.stack_form, {"row": PUSH[:2]}),
    (stacks.stack_then, {"one": ((), ("a",)), "other": (("a", "b"), ())}),
    (stacks.is_stack_form, {"value": ((), ())}),
    (stacks.stack_works, {"form": (("a",), ()), "contents": ("a", "b")}),
    (stacks.stack_left, {"form": (("a",), ()), "contents": ("a", "b")}),
    (stacks.stack_partners, {"row": PUSH}),
    (stacks.stack_clash, {"row": PUSH}),
    (stacks.shows_stack_clash, {"row": PUSH, "value": (1, 2)}),
    (queues.queue_form, {"row": PUT}),
    (queues.queue_then, {"one": QUEUE_FORM, "other": ((), ("c",), 0)}),
    (queues.is_queue_form, {"value": QUEUE_FORM}),
    (queues.normal_least, {"u": ("a", "b"), "v": ("b",), "d": 0}),
    (queues.queue_works, {"form": QUEUE_FORM, "contents": ("a",)}),
    (queues.queue_left, {"form": QUEUE_FORM, "contents": ("a",)}),
    (queues.queue_shorts, {"form": (("a",), ("a",), 0)}),
    (queues.bears_length, {"row": PUT, "length": 0}),
    (queues.queue_clash, {"row": PUT, "length": 0}),
    (queues.shows_queue_clash, {"row": PUT, "length": 0, "value": ("unlike", 0, 1)}),
    (queues.queue_source, {"row": PUT, "length": 1, "number": 0}),
    (queuepowers.power_least, {"form": QUEUE_FORM, "times": 3}),
    (queuepowers.power_works, {"form": QUEUE_FORM, "times": 1, "contents": ("a",)}),
    (queuepowers.power_length, {"form": QUEUE_FORM, "times": 1, "contents": ("a",)}),
    (queuepowers.power_letter, {"form": QUEUE_FORM, "times": 1, "contents": ("a",), "index": 1}),
    (queuepowers.power_left, {"form": QUEUE_FORM, "times": 1, "contents": ("a",)}),
    (queuepowers.powers_alike, {"one": QUEUE_FORM, "times": 2, "other": QUEUE_FORM, "more": 3}),
    (queuepowers.most_times, {"form": QUEUE_FORM, "contents": ("a",)}),
    (queuepowers.endless_contents, {"form": (("a",), ("a",), 1), "length": 2}),
    (rings.ring_form, {"kind": RING, "row": RING_ROW}),
    (rings.is_ring_form, {"kind": RING, "value": RING_FORM}),
    (rings.ring_then, {"kind": RING, "one": RING_FORM, "other": ((0, ("c",)), (1, ("c",)), None)}),
    (rings.ring_works, {"kind": RING, "form": RING_FORM, "contents": ("a", "c")}),
    (rings.ring_left, {"kind": RING, "form": RING_FORM, "contents": ("a", "c")}),
    (rings.walk_of, {"row": RING_ROW}),
    (rings.is_walk, {"value": WALK}),
    (rings.walk_then, {"one": WALK, "other": ((), 1, (), 1, 1)}),
    (rings.ring_by_walk, {"kind": RING, "walk": WALK}),
    (rings.row_by_walk, {"walk": WALK}),
    (rings.spilt_by, {"kind": RING, "row": RING_ROW, "length": 1}),
    (rings.least_ring, {"row": RING_ROW, "length": 1}),
    (tapes.tape_form, {"row": TAPE_ROW}),
    (tapes.is_tape_form, {"value": TAPE_FORM}),
    (tapes.tape_then, {"one": TAPE_FORM, "other": (2, (), ((0, "c"),))}),
    (tapes.tape_works, {"form": TAPE_FORM, "contents": ((), "a")}),
    (tapes.tape_left, {"form": TAPE_FORM, "contents": ((), "a")}),
    (tapes.tape_known, {"form": TAPE_FORM}),
    (tapes.tape_needs, {"form": TAPE_FORM, "wanted": [(0, "b"), (5, "c")]}),
    (tapes.tapes_meet, {"one": TAPE_FORM, "other": (2, ((3, "c"),), ())}),
    (tapes.tapes_agree, {"one": TAPE_FORM, "other": (2, ((3, "c"),), ())}),
    (tapes.tape_clash, {"row": (("write", "a"), ("expect", "b"))}),
    (tapes.accepts_clash, {"row": (("write", "a"), ("expect", "b")), "paper": (0, 1)}),
    (heaps.heap_form, {"row": HEAP_ROW}),
    (heaps.heap_then, {"one": HEAP_FORM, "other": (0, ((None, 0, 0), (3, 1, 1)))}),
    (heaps.is_heap_form, {"value": HEAP_FORM}),
    (heaps.heap_works, {"form": HEAP_FORM, "contents": (7,)}),
    (heaps.heap_left, {"form": HEAP_FORM, "contents": (7,)}),
    (heaps.left_many, {"form": HEAP_FORM, "contents": (7,)}),
    (heaps.left_kth, {"form": HEAP_FORM, "contents": (7,), "place": 1}),
    (heaps.taken_by, {"form": HEAP_FORM, "contents": (7,)}),
    (heaps.count_behind, {"form": HEAP_FORM, "t": 1, "many": 3}),
    (heaps.sure_numbers, {"form": HEAP_FORM}),
    (heaps.risked_numbers, {"form": HEAP_FORM}),
    (heaps.told_heap_row, {"form": HEAP_FORM}),
    (heaps.least_road, {"contents": (1, 2), "other": (2, 3)}),
    (gauges.gauge_form, {"kind": STOP, "row": (("add", 5), ("sub", 3))}),
    (gauges.gauge_then, {"kind": STOP, "one": (2, 2, 6), "other": (0, -1, 8)}),
    (gauges.is_gauge_form, {"kind": STOP, "value": (2, 2, 6)}),
    (gauges.gauge_works, {"kind": FAIL, "form": (0, 2, 4), "contents": 3}),
    (gauges.gauge_left, {"kind": FAIL, "form": (0, 2, 4), "contents": 3}),
    (gauges.gauge_origin, {"kind": STOP, "form": (2, 2, 6), "number": 6}),
    (gauges.gauge_stops, {"kind": STOP, "row": (("add", 5), ("sub", 3)), "contents": 7}),
    (gauges.gauge_depth, {"kind": FAIL, "row": (("add", 5), ("sub", 8))}),
    (tables.table_form, {"row": (("absent", "n"), ("set", "m", "x"))}),
    (tables.table_then, {"one": TABLE_FORM, "other": ((), (("n", "x"),))}),
    (tables.table_common, {"one": TABLE_FORM, "other": ((("m", "y"),), ())}),
    (tables.can_change_places, {"one": TABLE_FORM, "other": ((), (("n", "x"),))}),
    (tables.is_table_form, {"value": TABLE_FORM}),
    (tables.table_works, {"form": TABLE_FORM, "contents": (("o", "x"),)}),
    (tables.table_left, {"form": TABLE_FORM, "contents": (("o", "x"),)}),
    (tables.table_row, {"form": TABLE_FORM}),
    (forms.form_of, {"kind": STACK, "row": PUSH[:2]}),
    (forms.empty_form, {"kind": STACK}),
    (forms.is_form, {"kind": STACK, "value": ((), ())}),
    (forms.joined, {"kind": STACK, "one": ((), ("a",)), "other": (("a", "b"), ())}),
    (forms.joined_all, {"kind": STACK, "forms": [((), ("a",)), (("a", "b"), ())]}),
    (forms.works_on, {"kind": STACK, "form": (("a",), ()), "contents": ("a", "b")}),
    (forms.left_by, {"kind": STACK, "form": (("a",), ()), "contents": ("a", "b")}),
    (forms.rows_alike, {"kind": STACK, "one": PUSH[:2], "other": PUSH}),
    (several.Boxes, {"pairs": [("s", STACK), ("g", FAIL)]}),
    (BOXES.names, {}),
    (BOXES.kind_of, {"name": "g"}),
    (BOXES.has_step, {"value": ("s", ("push", "a"))}),
    (several.own_row, {"boxes": BOXES, "row": MIXED, "name": "g"}),
    (several.all_left, {"boxes": BOXES, "row": MIXED[:2], "contents": ((), 1)}),
    (several.first_failing, {"boxes": BOXES, "row": MIXED, "contents": ((), 1)}),
    (several.failing_of, {"boxes": BOXES, "row": MIXED, "contents": ((), 1)}),
    (several.mixed_form, {"boxes": BOXES, "row": MIXED[:2]}),
    (several.is_mixed_form, {"boxes": BOXES, "value": MIXED_FORM}),
    (several.joined_mixed, {"boxes": BOXES, "one": MIXED_FORM, "other": ((("a", "b"), ()), (3, 1, 6))}),
    (several.mixed_works, {"boxes": BOXES, "form": MIXED_FORM, "contents": ((), 1)}),
    (several.mixed_left, {"boxes": BOXES, "form": MIXED_FORM, "contents": ((), 1)}),
    (several.mixed_alike, {"boxes": BOXES, "one": MIXED, "other": OTHER}),
    (several.parting_box, {"boxes": BOXES, "one": MIXED[:1], "other": MIXED[:2]}),
    (several.same_but_order, {"boxes": BOXES, "one": MIXED, "other": OTHER}),
    (several.least_exchanges, {"boxes": BOXES, "one": MIXED, "other": OTHER}),
    (several.told_exchanges, {"boxes": BOXES, "one": MIXED, "other": OTHER}),
    (several.leads_by, {"boxes": BOXES, "one": MIXED, "other": OTHER, "value": [0]}),
    (several.orderly_row, {"boxes": BOXES, "row": MIXED}),
    (several.how_many_orders, {"boxes": BOXES, "row": MIXED}),
    (comparing.is_less, {"kind": STACK, "one": (("a",), ("a",)), "other": ((), ())}),
    (comparing.are_comparable, {"kind": STACK, "one": (("a",), ("a",)), "other": ((), ())}),
    (comparing.has_back, {"kind": STACK, "form": GROWING}),
    (comparing.back_of, {"kind": STACK, "form": GROWING}),
    (comparing.shortest_row, {"kind": STACK, "form": GROWING}),
    (comparing.shortest_steps, {"kind": STACK, "form": GROWING}),
    (comparing.is_shortest, {"kind": STACK, "row": PUSH}),
    (powers.power_of, {"kind": STACK, "form": GROWING, "n": 3}),
    (powers.is_power_nowhere, {"kind": STACK, "form": GROWING, "n": 3}),
    (powers.repeats_at, {"kind": STOP, "form": (2, 2, 6)}),
    (powers.lasting, {"kind": STACK, "form": (("a",), ()), "contents": ("a", "a")}),
    (powers.works_behind, {"kind": STACK, "form": GROWING, "n": 3, "contents": ("a",)}),
    (powers.size_behind, {"kind": STACK, "form": GROWING, "n": 3, "contents": ("a",)}),
    (powers.letter_behind, {"kind": STACK, "form": GROWING, "n": 3, "contents": ("a",), "place": 2}),
    (powers.left_behind, {"kind": STACK, "form": GROWING, "n": 3, "contents": ("a",)}),
    (registers.is_desk, {"value": DESK}),
    (registers.is_load, {"desk": DESK, "value": LOAD}),
    (registers.is_moved_step, {"desk": DESK, "value": MOVED[0]}),
    (registers.is_moved_row, {"desk": DESK, "value": MOVED}),
    (registers.load_left, {"desk": DESK, "row": MOVED, "load": LOAD}),
    (registers.failing_moved, {"desk": DESK, "row": MOVED + (("is", "r", "b"),), "load": LOAD}),
    (registers.loads_along, {"desk": DESK, "row": MOVED, "load": LOAD}),
    (registers.met_boxes, {"desk": DESK, "row": MOVED}),
    (registers.met_registers, {"desk": DESK, "row": MOVED}),
    (registers.first_read, {"desk": DESK, "row": MOVED}),
    (signs.depths_of, {"desk": DESK, "row": MOVED}),
    (signs.classes_at, {"desk": DESK, "depths": (2, 1)}),
    (signs.class_of, {"desk": DESK, "depths": (2, 1), "load": LOAD}),
    (signs.signs_of, {"desk": DESK, "row": MOVED, "depths": (2, 1), "cls": (2, 0)}),
)
TRUTHS = ("is_", "shows_", "accepts_", "bears_", "has_", "can_", "leads_", "same_", "works_", "are_")
TRUTHS_TOO = ("_works", "_alike", "_agree")
# Of these it is told where in the list a value is wrong, None if it is no list at all.
LISTS = ("letters", "forms", "pairs")


class Calls(unittest.TestCase):
    def test_by_position_and_by_name_in_any_order(self):
        for call, named in CALLS:
            with self.subTest(call=call.__name__):
                told = call(*named.values())
                self.assertIsNotNone(told)
                self.assertEqual(call(**named), told)
                self.assertEqual(call(**dict(reversed(named.items()))), told)
                if not named:
                    continue
                first = next(iter(named))
                rest = {name: named[name] for name in named if name != first}
                self.assertEqual(call(named[first], **rest), told)

    def test_no_argument_more_or_less(self):
        for call, named in CALLS:
            with self.assertRaises(TypeError):
                call(*named.values(), None)
            if named:
                with self.assertRaises(TypeError):
                    call(*list(named.values())[1:])

    def test_truths_are_bools(self):
        for call, named in CALLS:
            name = call.__name__
            told = call(**named)
            self.assertEqual(isinstance(told, bool), name.startswith(TRUTHS) or name.endswith(TRUTHS_TOO), name)

    def test_what_was_handed_in_stays_as_it_was(self):
        for call, named in CALLS:
            held = copy.deepcopy(named)
            call(**named)
            self.assertEqual(named, held)

    def test_returned_lists_and_dicts_are_new_ones(self):
        for call, named in CALLS:
            told = call(**named)
            if isinstance(told, (list, dict)):
                held = copy.deepcopy(told)
                told.clear()
                self.assertEqual(call(**named), held)

    def test_lists_changed_afterwards_change_nothing(self):
        letters = ["a", "b"]
        told = kinds.new_letter(letters)
        letters.append("c")
        self.assertEqual(told, "c")
        self.assertEqual(kinds.new_letter(letters), "d")
        wanted = [(1, "b")]
        told = tapes.tape_needs((0, (), ()), wanted)
        wanted.append((2, "c"))
        self.assertEqual(told, ((1, "b"),))
        self.assertEqual(tapes.tape_needs((0, (), ()), wanted), ((1, "b"), (2, "c")))

    def test_true_and_false_are_no_numbers_and_nothing_else(self):
        for call, named in CALLS:
            for name in named:
                for value in (True, False):
                    given = {**named, name: value}
                    with self.subTest(call=call.__name__, given=given):
                        self.check_refused(call, name, given)

    def check_refused(self, call, name, given):
        told = raised(call, **given)
        if told is None:
            # What takes any value tells that it is none.
            self.assertIn(name, ("value", "paper"))
            self.assertIs(call(**given), False)
        elif call is queues.normal_least:
            self.assertEqual(told, ("NoForm", tuple(given.values())))
        else:
            self.assertIs(told[1], None if name in LISTS else given[name])


if __name__ == "__main__":
    unittest.main()
