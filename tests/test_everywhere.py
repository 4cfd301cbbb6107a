"""Promise [0.1]: arguments by name, copies, new lists, bools, like calls, numbers that are no truths."""

import copy
import unittest

from boxeffects import boxes, kinds, stacks

STACK = ("stack",)
PUSH = (("push", "a"), ("push", "b"), ("pop", "c"))

# Each function, with arguments by name, in the order of the interface.
CALLS = (
    (kinds.is_letter, {"value": "a"}),
    (kinds.is_kind, {"value": STACK}),
    (kinds.is_step, {"kind": STACK, "value": ("push", "a")}),
    (kinds.is_row, {"kind": STACK, "value": PUSH}),
    (kinds.is_contents, {"kind": STACK, "value": ("a",)}),
    (kinds.size_of, {"kind": STACK, "contents": ("a",)}),
    (kinds.under_head, {"contents": (((1, "b"),), "a"), "place": 1}),
    (kinds.new_letter, {"letters": ["a"]}),
    (boxes.left_by_row, {"kind": STACK, "row": PUSH[:2], "contents": ("a",)}),
    (boxes.failing_step, {"kind": STACK, "row": PUSH, "contents": ("a",)}),
    (boxes.course_of, {"kind": STACK, "row": PUSH, "contents": ("a",)}),
    (stacks.stack_form, {"row": PUSH[:2]}),
    (stacks.stack_then, {"one": ((), ("a",)), "other": (("a", "b"), ())}),
    (stacks.is_stack_form, {"value": ((), ())}),
    (stacks.stack_works, {"form": (("a",), ()), "contents": ("a", "b")}),
    (stacks.stack_left, {"form": (("a",), ()), "contents": ("a", "b")}),
    (stacks.stack_partners, {"row": PUSH}),
    (stacks.stack_clash, {"row": PUSH}),
    (stacks.shows_stack_clash, {"row": PUSH, "value": (1, 2)}),
)
TRUTHS = ("is_", "shows_", "accepts_", "bears_")
TRUTHS_TOO = ("stack_works",)


class Calls(unittest.TestCase):
    def test_by_position_and_by_name_in_any_order(self):
        for call, named in CALLS:
            with self.subTest(call=call.__name__):
                told = call(*named.values())
                self.assertIsNotNone(told)
                self.assertEqual(call(**named), told)
                self.assertEqual(call(**dict(reversed(named.items()))), told)
                first = next(iter(named))
                rest = {name: named[name] for name in named if name != first}
                self.assertEqual(call(named[first], **rest), told)

    def test_no_argument_more_or_less(self):
        for call, named in CALLS:
            with self.assertRaises(TypeError):
                call(*named.values(), None)
            with self.assertRaises(TypeError):
                call(*list(named.values())[1:])

    def test_truths_are_bools(self):
        for call, named in CALLS:
            name = call.__name__
            told = call(**named)
            self.assertEqual(isinstance(told, bool), name.startswith(TRUTHS) or name in TRUTHS_TOO, name)

    def test_what_was_handed_in_stays_as_it_was(self):
        for call, named in CALLS:
            held = copy.deepcopy(named)
            call(**named)
            self.assertEqual(named, held)

    def test_returned_lists_are_new_ones(self):
        for call, named in CALLS:
            told = call(**named)
            if isinstance(told, list):
                held = list(told)
                told.clear()
                self.assertEqual(call(**named), held)

    def test_lists_changed_afterwards_change_nothing(self):
        letters = ["a", "b"]
        told = kinds.new_letter(letters)
        letters.append("c")
        self.assertEqual(told, "c")
        self.assertEqual(kinds.new_letter(letters), "d")


if __name__ == "__main__":
    unittest.main()
