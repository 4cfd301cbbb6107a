"""Promise [13]: desks, loads, moved rows, what they leave, where they fail, what they meet and read first."""

import unittest
from itertools import product

from boxeffects.boxes import left_by_row
from boxeffects.registers import (
    failing_moved,
    first_read,
    is_desk,
    is_load,
    is_moved_row,
    is_moved_step,
    load_left,
    loads_along,
    met_boxes,
    met_registers,
)
from small import ODD, TOO_MANY, Everything, raised, rows

STACK, QUEUE, TAPE = ("stack",), ("queue",), ("tape",)
DROP, FAIL = ("ring", 2, "drop"), ("ring", 2, "fail")
# A box and a register may be called alike.
DESK = ((("a", STACK), ("q", QUEUE), ("t", TAPE)), ("a", "b"))
RINGS = ((("d", DROP), ("f", FAIL)), ("a",))
LOAD = ((("x", "y"), (), (((1, "y"),), "x")), ("k", "l"))
CALLS = (load_left, failing_moved, loads_along)
ROW_CALLS = (met_boxes, met_registers, first_read)
STEPS = (("a", ("draw", "a")), ("a", ("lay", "b")), ("a", ("push", "x")), ("q", ("lay", "a")), ("q", ("draw", "b")),
         ("q", ("take", "x")), ("t", ("look", "b")), ("t", ("lay", "a")), ("t", ("right",)), ("t", ("expect", "x")),
         ("copy", "a", "b"), ("is", "a", "x"), ("same", "a", "b"))
LOADS = [(contents, letters) for contents in (
    ((), (), ((), "x")), (("x",), ("x", "y"), ((), "y")), (("y", "x"), ("y",), (((1, "y"),), "x")),
) for letters in product("xy", repeat=2)]
WRONG_DESKS = (
    None, (), (DESK[0],), [DESK[0], DESK[1]], (list(DESK[0]), ()), (DESK[0], ["a"]), ((), ()), (DESK[0], ("a",), ()),
    (DESK[0] + (("u", STACK),), ()), (DESK[0][::-1], ()), ((("a", STACK), ("a", QUEUE)), ()), (DESK[0], ("b", "a")),
    (DESK[0], ("a", "a")), (DESK[0], ("a", "b", "c", "d", "e")), ((("a", ("heap",)),), ()), ((("a", ("table",)),), ()),
    ((("a", ("gauge", 2, "fail")),), ()), ((("a", ("ring", 2, "ignore")),), ()), ((("a", ("ring", 13, "drop")),), ()),
    ((("a", "stack"),), ()), (((STACK, "a"),), ()), ((["a", STACK],), ()), ((("A", STACK),), ()), (DESK[0], ("A",)),
    (DESK[0], "ab"), (DESK[0], (None,)), (DESK[0], ("abcde",)), ((("a", STACK, 1),), ()), (("a", STACK), ()), "ab",
    ((("a", ["stack"]),), ()), (None, ()), (DESK[0], None), ((("a", ()),), ()),
)
WRONG_LOADS = (
    None, (), list(LOAD), (LOAD[0],), (LOAD[0][:2], LOAD[1]), (LOAD[0], LOAD[1][:1]), (LOAD[0], ("k", "L")),
    (LOAD[0], ["k", "l"]), (list(LOAD[0]), LOAD[1]), (LOAD[0], ("k", "l", "m")), (LOAD[0] + ((),), LOAD[1]),
    ((["x"],) + LOAD[0][1:], LOAD[1]), (("xy",) + LOAD[0][1:], LOAD[1]), ((LOAD[0][0], (), ()), LOAD[1]),
    ((LOAD[0][0], ("x",) * 4001, LOAD[0][2]), LOAD[1]), ((LOAD[0][0], (), (((1, "x"),), "x")), LOAD[1]),
    (LOAD[0], LOAD[1], ()), (LOAD[0], "kl"), "ab", (LOAD[0], (None, "l")), (LOAD[0], (True, "l")),
)
WRONG_STEPS = (
    None, (), ("a",), "ab", ["copy", "a", "b"], ("copy", "a", "c"), ("copy", "c", "a"), ("copy", "a"), ("copy", "a", "b", "b"),
    ("is", "a", "X"), ("is", "c", "x"), ("is", "a", None), ("is", "a", 1), ("same", "a", "x"), ("same", "x", "a"),
    ("same", None, "a"), ("swap", "a", "b"), (None, "a", "b"), ("a", ("put", "x")), ("c", ("push", "x")),
    ("a", ("draw", "c")), ("a", ("draw",)), ("a", ["draw", "a"]), ("a", ("look", "a")), ("t", ("draw", "a")),
    ("q", ("look", "a")), ("a", ("lay", "c")), ("a", ("lay", None)), ("a", ("lay", "a", "b")), ("q", ("push", "x")),
    ("q", ("take",)), ("t", ("left", "a")), ("t", None), ("a", "push"), (["a"], ("push", "x")), (("a",), ("push", "x")),
    ("a", (None, "a")), ("a", ("copy", "a")), (1, ("push", "x")), ("a", ("push", True)), ("copy", ["a"], "b"),
    (["copy"], "a", "b"), ("a", ()), ("a", (Everything(), "a")), (Everything(), "a", "b"), (Everything(), ("push", "x")),
    ("same", Everything(), "a"), ("is", "a", Everything()),
)


def by_hand(desk, row, load):
    """The loads ahead of and behind each step, step by step on lists, and whether the last step fails."""
    (boxes, names), (contents, held) = desk, load
    lying = {name: part for (name, _), part in zip(boxes, contents)}
    kinds = dict(boxes)
    letters = dict(zip(names, held))
    loads = [load]
    for step in row:
        if step[0] == "copy" and len(step) == 3:
            letters[step[2]] = letters[step[1]]
        elif len(step) == 3:
            if letters[step[1]] != (letters[step[2]] if step[0] == "same" else step[2]):
                return loads, True
        else:
            name, act = step
            kind = kinds[name]
            if act[0] == "look":
                pairs, rest = lying[name]
                letters[act[1]] = dict(pairs).get(0, rest)
                act = ("expect", letters[act[1]])
            elif act[0] == "draw":
                if not lying[name]:
                    return loads, True
                letters[act[1]] = lying[name][0]
                act = {"stack": ("pop",), "queue": ("take",), "ring": ("take",)}[kind[0]]
                act += () if kind[0] == "ring" else (lying[name][0],)
            elif act[0] == "lay":
                act = ({"stack": "push", "tape": "write"}.get(kind[0], "put"), letters[act[1]])
            left = left_by_row(kind, (act,), lying[name])
            if left is None:
                return loads, True
            lying[name] = left
        loads.append((tuple(lying[name] for name, _ in boxes), tuple(letters[name] for name in names)))
    return loads, False


class Values(unittest.TestCase):
    def test_desks(self):
        for value in (DESK, RINGS, ((("a", STACK),), ()), (DESK[0], ("a", "b", "c", "d")), (DESK[0][1:], ("abcd", "b")),
                      ((("a", ("ring", 12, "fail")), ("ab", ("ring", 1, "drop")), ("b", TAPE)), ())):
            self.assertIs(is_desk(value), True, value)
        for value in (*WRONG_DESKS, *ODD):
            self.assertIs(is_desk(value), False, value)

    def test_loads(self):
        for value in (LOAD, *LOADS, ((("x",) * 4000, ("x",) * 4000, ((), "x")), ("x", "x"))):
            self.assertIs(is_load(DESK, value), True)
        for value in (*WRONG_LOADS, *ODD):
            self.assertIs(is_load(DESK, value), False, value)
        self.assertIs(is_load(RINGS, ((("x", "y"), ("x",)), ("z",))), True)
        self.assertIs(is_load(RINGS, ((("x", "y", "x"), ("x",)), ("z",))), False)
        self.assertIs(is_load(((("a", STACK),), ()), (((),), ())), True)

    def test_moved_steps(self):
        for step in (*STEPS, ("copy", "a", "a"), ("same", "a", "a"), ("is", "b", "zzzz"), ("t", ("lay", "b")), ("a", ("pop", "x")),
                     ("q", ("put", "x")), ("q", ("draw", "a")), ("t", ("write", "x"))):
            self.assertIs(is_moved_step(DESK, step), True, step)
        for value in (*WRONG_STEPS, *ODD):
            self.assertIs(is_moved_step(DESK, value), False, value)
        for step in (("d", ("draw", "a")), ("f", ("lay", "a")), ("d", ("take",)), ("f", ("put", "x"))):
            self.assertIs(is_moved_step(RINGS, step), True)
        for step in (("d", ("look", "a")), ("d", ("take", "a")), ("f", ("draw", "b"))):
            self.assertIs(is_moved_step(RINGS, step), False)

    def test_names_that_are_called_as_steps(self):
        desk = ((("copy", STACK), ("is", QUEUE), ("same", TAPE)), ("draw", "lay", "look"))
        row = (("copy", ("draw", "draw")), ("is", ("lay", "draw")), ("same", ("look", "look")), ("copy", "look", "lay"),
               ("copy", ("lay", "lay")), ("is", "lay", "is"), ("same", "look", "lay"))
        self.assertIs(is_moved_row(desk, row), True)
        self.assertEqual(load_left(desk, row, ((("x",), (), ((), "is")), ("k", "k", "k"))),
                         ((("is",), ("x",), ((), "is")), ("x", "is", "is")))
        self.assertEqual(met_boxes(desk, row), ("copy", "is", "same"))
        self.assertEqual(met_registers(desk, row), ("draw", "lay", "look"))

    def test_moved_rows(self):
        self.assertIs(is_moved_row(DESK, ()), True)
        self.assertIs(is_moved_row(DESK, STEPS), True)
        self.assertIs(is_moved_row(DESK, STEPS[:12] * 2), True)
        self.assertIs(is_moved_row(DESK, STEPS[:12] * 2 + STEPS[:1]), False)
        for value in (list(STEPS), STEPS[0], "ab", None, 0, *[(STEPS[0], wrong) for wrong in WRONG_STEPS]):
            self.assertIs(is_moved_row(DESK, value), False, value)


class Runs(unittest.TestCase):
    def check(self, desk, row, load):
        loads, fails = by_hand(desk, row, load)
        self.assertEqual(loads_along(desk, row, load), loads, (row, load))
        self.assertEqual(load_left(desk, row, load), None if fails else loads[-1])
        self.assertEqual(failing_moved(desk, row, load), len(loads) - 1 if fails else None)

    def test_short_rows(self):
        for row in rows(STEPS, 2):
            for load in LOADS:
                self.check(DESK, row, load)
        for number, row in enumerate(rows(STEPS, 3)):
            self.check(DESK, row, LOADS[number % len(LOADS)])

    def test_rings_by_both_modes(self):
        steps = (("d", ("lay", "a")), ("d", ("draw", "a")), ("f", ("lay", "a")), ("f", ("draw", "a")), ("d", ("take",)),
                 ("f", ("put", "z")))
        for row in rows(steps, 4):
            for load in (((("x",), ("x", "y")), ("k",)), ((("x", "y"), ()), ("k",))):
                self.check(RINGS, row, load)
        full = ((("x", "y"), ("x", "y")), ("k",))
        self.assertEqual(load_left(RINGS, (("d", ("lay", "a")),), full), ((("y", "k"), ("x", "y")), ("k",)))
        self.assertIsNone(load_left(RINGS, (("f", ("lay", "a")),), full))

    def test_the_example(self):
        desk = ((("q", QUEUE), ("s", STACK)), ("a",))
        row = (("s", ("draw", "a")), ("q", ("lay", "a")), ("is", "a", "x"))
        load = ((("y",), ("x", "z")), ("k",))
        self.assertEqual(load_left(desk, row, load), ((("y", "x"), ("z",)), ("x",)))
        self.assertEqual(loads_along(desk, row, load),
                         [load, ((("y",), ("z",)), ("x",)), ((("y", "x"), ("z",)), ("x",)), ((("y", "x"), ("z",)), ("x",))])

    def test_each_step_where_it_works_and_where_it_fails(self):
        told = (
            (("a", ("draw", "a")), ((("y",), (), (((1, "y"),), "x")), ("x", "l"))),
            (("a", ("pop", "y")), None), (("a", ("lay", "a")), ((("k", "x", "y"), (), (((1, "y"),), "x")), ("k", "l"))),
            (("q", ("draw", "a")), None), (("q", ("lay", "b")), ((("x", "y"), ("l",), (((1, "y"),), "x")), ("k", "l"))),
            (("t", ("look", "b")), (LOAD[0], ("k", "x"))), (("t", ("expect", "y")), None), (("t", ("expect", "x")), LOAD),
            (("t", ("lay", "a")), ((("x", "y"), (), (((0, "k"), (1, "y")), "x")), ("k", "l"))),
            (("t", ("right",)), ((("x", "y"), (), (((0, "y"),), "x")), ("k", "l"))),
            (("copy", "a", "b"), (LOAD[0], ("k", "k"))), (("copy", "b", "a"), (LOAD[0], ("l", "l"))), (("copy", "a", "a"), LOAD),
            (("is", "a", "k"), LOAD), (("is", "a", "l"), None), (("same", "a", "a"), LOAD), (("same", "a", "b"), None),
        )
        for step, left in told:
            self.assertEqual(load_left(DESK, (step,), LOAD), left, step)
            self.assertEqual(failing_moved(DESK, (step,), LOAD), 0 if left is None else None)
            self.assertEqual(loads_along(DESK, (step,), LOAD), [LOAD] + [left] * (left is not None))
        row = (("t", ("right",)), ("t", ("look", "a")), ("a", ("draw", "b")), ("same", "a", "b"), ("a", ("lay", "a")))
        self.assertEqual(failing_moved(DESK, row, LOAD), 3)
        self.assertEqual(len(loads_along(DESK, row, LOAD)), 4)

    def test_unmet_boxes_and_registers_stay(self):
        row = (("a", ("draw", "a")), ("a", ("pop", "y")))
        for queue, tape, letter in product(((), ("z",)), (((), "x"), (((5, "y"),), "x")), "xyz"):
            load = ((("x", "y"), queue, tape), ("k", letter))
            self.assertEqual(load_left(DESK, row, load), (((), queue, tape), ("x", letter)))

    def test_more_than_4000_letters(self):
        full = ("x",) * 4000
        load = ((full, full, ((), "x")), ("k", "l"))
        grown = (("a", ("lay", "a")), ("a", ("draw", "b")))
        self.assertEqual(raised(load_left, DESK, grown[:1], load), TOO_MANY)
        self.assertEqual(load_left(DESK, grown, load), (load[0], ("k", "k")))
        self.assertEqual(raised(loads_along, DESK, grown, load), TOO_MANY)
        self.assertEqual(raised(load_left, DESK, (("q", ("put", "x")), STEPS[0]), load), TOO_MANY)
        # Where the row fails nothing is left; what stood on the way is still told.
        self.assertIsNone(load_left(DESK, grown[:1] + (("is", "a", "x"),), load))
        self.assertEqual(failing_moved(DESK, grown[:1] + (("is", "a", "x"),), load), 1)
        self.assertEqual(raised(loads_along, DESK, grown[:1] + (("is", "a", "x"),), load), TOO_MANY)
        self.assertEqual(loads_along(DESK, (("is", "a", "x"),) + grown, load), [load])
        pairs = tuple((place, "y") for place in range(1, 4001))
        tape = (((), (), (pairs, "x")), ("k", "x"))
        self.assertEqual(raised(load_left, DESK, (("t", ("lay", "a")),), tape), TOO_MANY)
        self.assertEqual(load_left(DESK, (("t", ("lay", "b")),), tape), tape)


class Names(unittest.TestCase):
    def test_met(self):
        self.assertEqual(met_boxes(DESK, STEPS), ("a", "q", "t"))
        self.assertEqual(met_boxes(DESK, STEPS[10:]), ())
        self.assertEqual(met_boxes(DESK, (("t", ("left",)), ("a", ("pop", "q")))), ("a", "t"))
        self.assertEqual(met_registers(DESK, (("t", ("left",)), ("a", ("pop", "b")), ("is", "a", "b"))), ("a",))
        for step, told in ((("a", ("draw", "b")), ("b",)), (("t", ("look", "b")), ("b",)), (("q", ("lay", "b")), ("b",)),
                           (("copy", "b", "a"), ("a", "b")), (("is", "b", "a"), ("b",)), (("same", "b", "a"), ("a", "b")),
                           (("copy", "b", "b"), ("b",)), (("a", ("push", "b")), ())):
            self.assertEqual(met_registers(DESK, (step,)), told, step)
        self.assertEqual(met_registers(DESK, ()), ())

    def test_first_read(self):
        draw, look, lay = ("a", ("draw", "a")), ("t", ("look", "a")), ("q", ("lay", "a"))
        told = (
            ((), ()), ((draw,), ()), ((look,), ()), ((lay,), ("a",)), ((draw, lay), ()), ((look, lay), ()), ((lay, draw), ("a",)),
            ((("copy", "a", "a"),), ("a",)), ((("copy", "a", "b"),), ("a",)), ((("copy", "a", "b"), ("is", "b", "x")), ("a",)),
            ((("is", "b", "x"), ("copy", "a", "b")), ("a", "b")), ((("same", "a", "b"),), ("a", "b")),
            ((draw, ("same", "a", "b")), ("b",)), ((("same", "a", "a"),), ("a",)), ((draw, ("copy", "a", "b"), lay), ()),
            ((("copy", "b", "a"), lay, ("is", "b", "k")), ("b",)), ((("a", ("push", "b")),), ()),
        )
        for row, names in told:
            self.assertEqual(first_read(DESK, row), names, row)

    def test_only_registers_read_first_tell_what_happens(self):
        for row in rows(STEPS, 3)[::2]:
            read = first_read(DESK, row)
            for contents, letters in LOADS[::4]:
                left = load_left(DESK, row, (contents, letters))
                other = tuple(letter if name in read else "z" for name, letter in zip(("a", "b"), letters))
                more = load_left(DESK, row, (contents, other))
                self.assertEqual(left is None, more is None, row)
                if left is not None:
                    self.assertEqual(left[0], more[0])
                    for at, name in enumerate("ab"):
                        if name in read or self.is_filled(row, name):
                            self.assertEqual(left[1][at], more[1][at])
                        else:
                            self.assertEqual((left[1][at], more[1][at]), (letters[at], "z"))

    def is_filled(self, row, name):
        return any(step[-1] == name and step[0] == "copy" if len(step) == 3
                   else step[1][0] in ("draw", "look") and step[1][1] == name for step in row)


class Errors(unittest.TestCase):
    def test_no_desk_ahead_of_all(self):
        odd = object()
        for wrong in WRONG_DESKS:
            for call in (is_load, is_moved_step, is_moved_row, *ROW_CALLS):
                self.assertEqual(raised(call, wrong, odd), ("NoBoxes", wrong))
            for call in CALLS:
                self.assertEqual(raised(call, wrong, odd, odd), ("NoBoxes", wrong))

    def test_no_row_then_no_load(self):
        for wrong in (None, list(STEPS), STEPS * 2, STEPS[0], *[(wrong,) for wrong in WRONG_STEPS]):
            for call in ROW_CALLS:
                self.assertEqual(raised(call, DESK, wrong), ("NoRow", wrong))
            for call in CALLS:
                self.assertEqual(raised(call, DESK, wrong, None), ("NoRow", wrong))
        for wrong in WRONG_LOADS:
            for call in CALLS:
                self.assertEqual(raised(call, DESK, (), wrong), ("NoContents", wrong))

    def test_24_and_25_steps(self):
        row = (("t", ("left",)),) * 24
        self.assertEqual(load_left(DESK, row, LOAD)[0][2], (((25, "y"),), "x"))
        self.assertEqual(raised(load_left, DESK, row + row[:1], LOAD), ("NoRow", row + row[:1]))


if __name__ == "__main__":
    unittest.main()
