"""Promise [17], moved rows: their trials, the told parting, loads that part them."""

import unittest

from boxeffects.classes import form_in, told_load
from boxeffects.movedforms import first_parting_class, moved_alike, shared_depths
from boxeffects.movedparting import moved_does_part, moved_parting, moved_trials
from boxeffects.registers import is_load, load_left
from boxeffects.signs import class_of, classes_at
from moved import DROP, QUEUE, STACK, TAPE, WRONG_DESKS, cases, near_row, some_load, some_loads, some_row
from small import ODD, TOO_MANY, raised

DESK = ((("q", QUEUE), ("s", STACK)), ("r",))
DRAW, LAY, PUSH, POP = ("s", ("draw", "r")), ("s", ("lay", "r")), ("s", ("push", "a")), ("s", ("pop", "a"))
GET, PUT = ("q", ("draw", "r")), ("q", ("put", "b"))
ONE_TAPE = ((("t", TAPE),), ("a",))
LOOK, LAY_T, RIGHT, LEFT = ("t", ("look", "a")), ("t", ("lay", "a")), ("t", ("right",)), ("t", ("left",))
CALLS = (moved_trials, moved_parting, moved_does_part)


def pairs(seed, many, most):
    for draw, desk, row, _ in cases(seed, many, most):
        yield draw, desk, row, near_row(draw, desk, row) if draw.random() < 0.6 else some_row(draw, desk, most)


class Trials(unittest.TestCase):
    def test_class_by_class_row_by_row(self):
        # The class (0, 0): only the push has a form there; then (0, 1): both have.
        self.assertEqual(moved_trials(DESK, (DRAW,), (PUSH,)), [
            ((("c",), ()), ("b",)), ((("d",), ("c", "e")), ("b",))])
        # At depth 0 all stacks are open.
        self.assertEqual(moved_trials(DESK, (), (PUSH,)), [((("c",), ("d",)), ("b",))])
        self.assertEqual(moved_trials(DESK, (POP,), (DRAW,)), [((("c",), ("a", "d")), ("b",)), ((("d",), ("c", "e")), ("b",))])

    def test_fresh_letters_of_both_rows(self):
        row = (("is", "r", "a"), PUT, ("s", ("push", "c")))
        self.assertEqual(moved_trials(DESK, row, (("s", ("push", "e")),)), [((("d",), ("f",)), ("a",)), ((("f",), ("g",)), ("d",))])
        # Names of boxes and registers are no letters.
        desk = ((("a", STACK),), ("b",))
        self.assertEqual(moved_trials(desk, (("a", ("lay", "b")),), ()), [((("b",),), ("a",))])

    def test_places_of_tapes(self):
        # No place stands in a form: 0, and the next one.
        self.assertEqual(moved_trials(ONE_TAPE, (), (RIGHT,)), [(((((0, "b"), (1, "c")), "d"),), ("a",))])
        # Signs and written pairs of either form: from -1 to 2, and 3.
        row, other = (LOOK, RIGHT, RIGHT, LAY_T), (LEFT, ("t", ("write", "x")))
        lying = ((-1, "b"), (0, "c"), (1, "d"), (2, "e"), (3, "f"))
        self.assertEqual(moved_trials(ONE_TAPE, row, other), [((((lying), "g"),), ("a",))])
        # What is expected has its letter; a part has one letter at all its places.
        desk = (ONE_TAPE[0], ("a", "b"))
        row = (LOOK, RIGHT, ("t", ("look", "b")), ("same", "a", "b"), RIGHT, ("t", ("expect", "c")))
        lying = ((0, "d"), (1, "d"), (2, "c"), (3, "e"))
        self.assertEqual(moved_trials(desk, row, row), [(((lying, "f"),), ("a", "b"))])
        # Places that are only moved over, behind all that stand, have the rest.
        self.assertEqual(moved_trials(ONE_TAPE, (RIGHT,) * 3, ()), [(((((0, "b"), (1, "c")), "d"),), ("a",))])

    def test_open_boxes_ahead_of_rests(self):
        desk = ((("q", QUEUE), ("s", STACK), ("t", TAPE)), ("a",))
        self.assertEqual(moved_trials(desk, (), ()), [((("d",), ("e",), (((0, "b"), (1, "c")), "f")), ("a",))])
        two = ((("t", TAPE), ("u", TAPE)), ())
        lying = (((0, "a"), (1, "b")), "e"), (((0, "c"), (1, "d")), "f")
        self.assertEqual(moved_trials(two, (), ()), [(lying, ())])

    def test_rings_of_each_length(self):
        ring = ((("d", DROP),), ())
        take = (("d", ("take",)),)
        self.assertEqual(moved_trials(ring, take, ()), [(((),), ()), ((("a",),), ()), ((("a", "b"),), ())])
        self.assertEqual(moved_trials(ring, take, take), [((("a",),), ()), ((("a", "b"),), ())])

    def test_loads_of_their_classes_each_once(self):
        for _, desk, row, other in pairs(51, 200, 5):
            depths = shared_depths(desk, row, other)
            trials = moved_trials(desk, row, other)
            self.assertEqual(len(set(trials)), len(trials))
            classes = [class_of(desk, depths, trial) for trial in trials]
            self.assertEqual(classes, sorted(classes))
            for trial, cls in zip(trials, classes):
                self.assertIs(is_load(desk, trial), True)
                self.assertTrue(load_left(desk, row, trial) is not None or load_left(desk, other, trial) is not None)
            bearing = [cls for cls in classes_at(desk, depths)
                       if form_in(desk, row, depths, cls) is not None or form_in(desk, other, depths, cls) is not None]
            self.assertEqual(sorted(set(classes)), bearing)

    def test_told_loads_where_nothing_is_open_and_no_tape(self):
        ring = ((("d", DROP),), ("a", "b"))
        for draw, _, _, _ in pairs(52, 100, 1):
            row = some_row(draw, ring, 5)
            told = [told_load(ring, (0,), (many,), form_in(ring, row, (0,), (many,)))
                    for many in range(3) if form_in(ring, row, (0,), (many,)) is not None]
            letters = {step[-1] for step in row if step[0] == "is"} | {step[1][1] for step in row if step[1][0] == "put"}
            if not letters & {"a", "b", "c", "d"}:
                self.assertEqual(moved_trials(ring, row, row), told)


class Parting(unittest.TestCase):
    def test_none_just_for_rows_that_are_alike(self):
        found = {True: 0, False: 0}
        for draw, desk, row, other in pairs(53, 600, 6):
            told = moved_parting(desk, row, other)
            alike = moved_alike(desk, row, other)
            found[alike] += 1
            self.assertIs(told is None, alike)
            parting = [trial for trial in moved_trials(desk, row, other) if moved_does_part(desk, row, other, trial)]
            self.assertEqual(told, parting[0] if parting else None)
            if told is None:
                for load in some_loads(draw, desk, 3):
                    self.assertIs(moved_does_part(desk, row, other, load), False)
            else:
                self.assertNotEqual(load_left(desk, row, told), load_left(desk, other, told))
                cls = class_of(desk, shared_depths(desk, row, other), told)
                self.assertGreaterEqual(cls, first_parting_class(desk, row, other))
        self.assertGreater(min(found.values()), 100)

    def test_by_hand(self):
        self.assertEqual(moved_parting(DESK, (PUSH, POP), ()), None)
        self.assertEqual(moved_parting(DESK, (), (PUSH,)), ((("c",), ("d",)), ("b",)))
        # The trial of the first row does not part them, that of the second one does.
        row, other = (POP, PUSH), (DRAW, LAY, ("is", "r", "a"))
        self.assertIs(moved_does_part(DESK, row, other, ((("c",), ("a", "d")), ("b",))), True)
        self.assertEqual(moved_parting(DESK, row, other), ((("c",), ("a", "d")), ("b",)))

    def test_does_part_beside_plain_runs(self):
        for draw, desk, row, other in pairs(54, 300, 5):
            for _ in range(5):
                load = some_load(draw, desk, "xy")
                parted = load_left(desk, row, load) != load_left(desk, other, load)
                self.assertIs(moved_does_part(desk, row, other, load), parted)


class Errors(unittest.TestCase):
    def test_no_desk_then_no_rows(self):
        odd = object()
        for call in CALLS:
            more = (None,) if call is moved_does_part else ()
            for wrong in WRONG_DESKS:
                self.assertEqual(raised(call, wrong, odd, odd, *more), ("NoBoxes", wrong))
            for wrong in (None, [POP], POP, (("s", ("put", "x")),), (POP,) * 25, *ODD):
                self.assertEqual(raised(call, DESK, wrong, None, *more), ("NoRow", wrong))
                self.assertEqual(raised(call, DESK, (POP,), wrong, *more), ("NoRow", wrong))

    def test_no_load(self):
        for wrong in (None, (), ((), ()), (((), ()), ("A",)), [((), ()), ("a",)], *ODD):
            self.assertEqual(raised(moved_does_part, DESK, (POP,), (), wrong), ("NoContents", wrong))

    def test_too_long_to_be_told(self):
        load = (((), ("x",) * 4000), ("a",))
        self.assertEqual(raised(moved_does_part, DESK, (PUSH,), (), load), TOO_MANY)
        self.assertEqual(raised(moved_does_part, DESK, (), (PUSH,), load), TOO_MANY)
        self.assertIs(moved_does_part(DESK, (POP, PUSH), (PUSH, POP), load), True)
        # What stands between is not asked.
        self.assertIs(moved_does_part(DESK, (PUSH, POP), (), load), False)

    def test_more_than_1000_classes(self):
        desk = ((("p", STACK), ("q", QUEUE), ("s", STACK)), ())
        row = (("p", ("pop", "x")),) * 10 + (("q", ("take", "x")),) * 10
        other = (("s", ("pop", "x")),) * 10
        for call in CALLS[:2]:
            self.assertEqual(raised(call, desk, row, other), ("TooMany", 1000))
        # To go by one load no classes are needed.
        self.assertIs(moved_does_part(desk, row, other, (((), (), ("x",) * 10), ())), True)


if __name__ == "__main__":
    unittest.main()
