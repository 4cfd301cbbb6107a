"""Promise [14], signs: depths, classes, and the signs of a class."""

import unittest
from itertools import product

from boxeffects.registers import failing_moved, load_left
from boxeffects.signs import class_of, classes_at, depths_of, signs_of
from small import ODD, raised, rows

STACK, QUEUE, TAPE = ("stack",), ("queue",), ("tape",)
DROP, FAIL = ("ring", 2, "drop"), ("ring", 3, "fail")
DESK = ((("q", QUEUE), ("s", STACK)), ("r",))
TAPES = ((("d", DROP), ("t", TAPE)), ("a", "t"))
RINGS = ((("d", DROP), ("f", FAIL)), ())
THREE = ((("q", QUEUE), ("r", FAIL), ("s", STACK)), ("q",))
POP, PUSH, DRAW, LAY = ("s", ("pop", "x")), ("s", ("push", "x")), ("s", ("draw", "r")), ("s", ("lay", "r"))
TAKE, PUT, GET, GIVE = ("q", ("take", "x")), ("q", ("put", "x")), ("q", ("draw", "r")), ("q", ("lay", "r"))
STEPS = (POP, PUSH, DRAW, LAY, TAKE, PUT, GET, GIVE)
ROW = (DRAW, ("is", "r", "a"), GIVE)
WRONG_DESKS = (None, (), DESK[0], [DESK[0], DESK[1]], ((("h", ("heap",)),), ()), (DESK[0][::-1], ()), "ab")
WRONG_ROWS = (None, [POP], POP, (("s", ("put", "x")),), (POP,) * 25, (("s", ("draw", "q")),), "ab")
WRONG_DEPTHS = (None, (), (0,), (0, 1, 0), [0, 1], (0, 49), (49, 1), (-1, 1), (True, 1), (0, True), (False, 1), (0, 1.0), "ab",
                (0, None), 1)
WRONG_CLASSES = (None, (), (0,), (0, 0, 0), [0, 0], (0, 2), (1, 0), (-1, 0), (0, -1), (False, 0), (0, True), (0, 1.0), "ab",
                 (0, None), 1)


def taken(row, box):
    return len([1 for step in row if step[0] == box and step[1][0] in ("pop", "take", "draw")])


class Depths(unittest.TestCase):
    def test_straight_by_their_definition(self):
        for row in rows(STEPS, 4):
            sums = [2 * taken(row[:many], "s") - len([1 for step in row[:many] if step[0] == "s"])
                    for many in range(len(row) + 1)]
            self.assertEqual(depths_of(DESK, row), (taken(row, "q"), max(sums)))

    def test_by_hand(self):
        self.assertEqual(depths_of(DESK, ROW), (0, 1))
        self.assertEqual(depths_of(DESK, ()), (0, 0))
        self.assertEqual(depths_of(DESK, (PUSH, POP, DRAW, LAY, POP, POP, PUSH)), (0, 2))
        self.assertEqual(depths_of(DESK, (PUT, TAKE, GIVE, GET, PUT, PUT)), (2, 0))
        self.assertEqual(depths_of(DESK, (POP, TAKE) * 12), (12, 12))
        self.assertEqual(depths_of(TAPES, (("d", ("take",)), ("d", ("draw", "a")), ("t", ("look", "a")), ("t", ("left",)))), (0, 0))
        self.assertEqual(depths_of(THREE, (("r", ("draw", "q")), ("q", ("draw", "q")), ("s", ("draw", "q")))), (1, 0, 1))

    def test_so_many_letters_are_enough(self):
        # The depth of a stack is the least size at which no step finds it empty.
        for row in rows((POP, PUSH), 6):
            depth = depths_of(DESK, row)[1]
            for size in range(4):
                load = (((), ("x",) * size), ("x",))
                self.assertIs(failing_moved(DESK, row, load) is None, size >= depth)


class Classes(unittest.TestCase):
    def test_ascending(self):
        self.assertEqual(classes_at(DESK, (0, 1)), [(0, 0), (0, 1)])
        self.assertEqual(classes_at(DESK, (2, 1)), [(0, 0), (0, 1), (1, 0), (1, 1), (2, 0), (2, 1)])
        self.assertEqual(classes_at(TAPES, (0, 0)), [(0, 0), (1, 0), (2, 0)])
        self.assertEqual(classes_at(RINGS, (0, 0)), list(product(range(3), range(4))))
        self.assertEqual(classes_at(THREE, (3, 0, 2)), list(product(range(4), range(4), range(3))))
        self.assertEqual(classes_at(((("t", TAPE),), ()), (0,)), [(0,)])

    def test_1000_and_more(self):
        three = ((("p", STACK), ("q", QUEUE), ("s", STACK)), ())
        self.assertEqual(len(classes_at(three, (9, 9, 9))), 1000)
        self.assertEqual(raised(classes_at, three, (9, 10, 9)), ("TooMany", 1000))
        self.assertEqual(raised(classes_at, three, (48, 48, 48)), ("TooMany", 1000))
        self.assertEqual(raised(classes_at, DESK, (48, 48)), ("TooMany", 1000))
        self.assertEqual(len(classes_at(DESK, (48, 19))), 980)
        self.assertEqual(len(classes_at(THREE, (48, 0, 4))), 980)
        self.assertEqual(raised(classes_at, THREE, (48, 0, 5)), ("TooMany", 1000))

    def test_class_of_loads_of_each_class(self):
        for depths in ((0, 0), (0, 1), (3, 2), (48, 48)):
            for many, more in product(range(6), range(6)):
                load = (((("x",) * many), ("y",) * more), ("z",))
                self.assertEqual(class_of(DESK, depths, load), (min(many, depths[0]), min(more, depths[1])))
        self.assertEqual(class_of(DESK, (48, 48), ((("x",) * 4000, ("x",) * 47), ("z",))), (48, 47))
        for many, more in product(range(3), range(4)):
            self.assertEqual(class_of(RINGS, (0, 0), ((("x",) * many, ("y",) * more), ())), (many, more))
        self.assertEqual(class_of(TAPES, (0, 0), ((("x",), (((1, "x"), (2, "x")), "y")), ("z", "z"))), (1, 0))

    def test_each_load_is_in_just_one_class(self):
        depths = (2, 0, 1)
        for sizes in product(range(4), range(4), range(3)):
            load = (tuple(("x",) * many for many in sizes), ("y",))
            self.assertEqual(classes_at(THREE, depths).count(class_of(THREE, depths, load)), 1)


class Signs(unittest.TestCase):
    def test_each_class(self):
        for cls in classes_at(DESK, (3, 2)):
            told = [("q", i) for i in range(1, cls[0] + 1)] + [("r",)] + [("s", i) for i in range(1, cls[1] + 1)]
            for row in ((), ROW, (TAKE, POP), (POP, PUSH, TAKE, TAKE)):
                self.assertEqual(signs_of(DESK, row, (3, 2), cls), told)
        for cls in classes_at(THREE, (1, 0, 1)):
            told = [("q",)] + [(name, i) for name, many in zip("qrs", cls) for i in range(1, many + 1)]
            self.assertEqual(signs_of(THREE, (), (1, 0, 1), cls), told)

    def test_registers_that_are_not_met(self):
        desk = (DESK[0], ("a", "q", "s", "z"))
        self.assertEqual(signs_of(desk, (), (1, 1), (1, 0)), [("a",), ("q",), ("q", 1), ("s",), ("z",)])

    def test_places_of_tapes(self):
        left, right, look = ("t", ("left",)), ("t", ("right",)), ("t", ("look", "a"))
        lay, write, expect = ("t", ("lay", "a")), ("t", ("write", "x")), ("t", ("expect", "x"))
        told = (((), ()), ((left, left, right), ()), ((look,), (0,)), ((right, lay), (1,)), ((left, write), (-1,)),
                ((left, left, expect, right, expect), (-2, -1)), ((look, right, right, lay, left, left, write), (0, 2)),
                ((right, look, left, left, left, expect), (-2, 1)))
        for row, places in told:
            signs = signs_of(TAPES, row, (0, 0), (0, 0))
            self.assertEqual(signs, [("a",), ("t",)] + [("t", place) for place in places])
            self.assertEqual(signs_of(TAPES, row, (0, 0), (2, 0)), [("a",), ("d", 1), ("d", 2), ("t",)] + signs[2:])

    def test_up_to_where_it_fails_outright(self):
        look, right = ("t", ("look", "a")), ("t", ("right",))
        for step in (("d", ("draw", "a")), ("d", ("take",))):
            row = (look, step, right, look, step, right, look)
            for many, places in ((0, (0,)), (1, (0, 1)), (2, (0, 1, 2))):
                signs = signs_of(TAPES, row, (0, 0), (many, 0))
                self.assertEqual([place for name, *rest in signs for place in rest if name == "t"], list(places))
        # By drop a put never fails, by fail it does where the ring is full; what has gone makes room.
        for mode, places in (("drop", [0, 1]), ("fail", [0])):
            desk = ((("d", ("ring", 2, mode)), ("t", TAPE)), ("a",))
            for put in (("d", ("put", "x")), ("d", ("lay", "a"))):
                self.assertEqual(signs_of(desk, (look, put, right, look), (0, 0), (2, 0))[3:], [("t", at) for at in places])
                row = (look, ("d", ("take",)), put, right, look)
                self.assertEqual(signs_of(desk, row, (0, 0), (2, 0))[3:], [("t", 0), ("t", 1)])
                # By drop it stays full: two are left to be taken, no third one.
                row = (put, put, put, look, *[("d", ("take",))] * 2, right, look, ("d", ("take",)), right, look)
                told = [("t", 0), ("t", 1)] if mode == "drop" else []
                self.assertEqual(signs_of(desk, row, (0, 0), (1, 0))[2:], told)

    def test_stacks_and_queues_that_fail_outright(self):
        for kind, take, put in ((STACK, ("pop", "x"), ("push", "x")), (QUEUE, ("take", "x"), ("put", "x"))):
            desk = ((("b", kind), ("t", TAPE)), ("a",))
            look, right = ("t", ("look", "a")), ("t", ("right",))
            row = (("b", take), look, ("b", ("draw", "a")), right, look)
            for many, places in ((0, ()), (1, (0,)), (2, (0, 1)), (3, (0, 1))):
                signs = signs_of(desk, row, (3, 0), (many, 0))
                self.assertEqual(signs, [("a",)] + [("b", i) for i in range(1, many + 1)] + [("t", at) for at in places])
            # What was put can be taken, also laid ones.
            row = (("b", put), ("b", ("lay", "a")), ("b", take), ("b", take), look, ("b", take), right, look)
            depth = depths_of(desk, row)[0]
            self.assertEqual(signs_of(desk, row, (depth, 0), (0, 0)), [("a",), ("t", 0)])
            self.assertEqual(signs_of(desk, row, (depth, 0), (depth, 0))[-2:], [("t", 0), ("t", 1)])

    def test_ties_end_nothing(self):
        look, right = ("t", ("look", "a")), ("t", ("right",))
        row = (("t", ("expect", "x")), ("t", ("expect", "y")), ("is", "a", "x"), ("is", "a", "y"), right, look)
        self.assertEqual(signs_of(TAPES, row, (0, 0), (0, 0)), [("a",), ("t",), ("t", 0), ("t", 1)])

    def test_unread_places_stay_free(self):
        # Whatever lies at other places, what is left elsewhere does not hang on it.
        look, right = ("t", ("look", "a")), ("t", ("right",))
        row = (right, look, right, ("t", ("lay", "a")))
        self.assertEqual(signs_of(TAPES, row, (0, 0), (0, 0))[2:], [("t", 1), ("t", 2)])
        for letter in "xyz":
            left = load_left(TAPES, row, (((), (((0, letter),) if letter != "x" else (), "x")), ("k", "k")))
            self.assertEqual(left[1], ("x", "k"))


class Errors(unittest.TestCase):
    def test_no_desk_ahead_of_all(self):
        odd = object()
        for wrong in WRONG_DESKS:
            for call in (depths_of, classes_at):
                self.assertEqual(raised(call, wrong, odd), ("NoBoxes", wrong))
            self.assertEqual(raised(class_of, wrong, odd, odd), ("NoBoxes", wrong))
            self.assertEqual(raised(signs_of, wrong, odd, odd, odd), ("NoBoxes", wrong))

    def test_no_row(self):
        for wrong in WRONG_ROWS:
            self.assertEqual(raised(depths_of, DESK, wrong), ("NoRow", wrong))
            self.assertEqual(raised(signs_of, DESK, wrong, None, None), ("NoRow", wrong))

    def test_no_depths(self):
        for wrong in (*WRONG_DEPTHS, *ODD):
            self.assertEqual(raised(classes_at, DESK, wrong), ("NoCount", wrong))
            self.assertEqual(raised(class_of, DESK, wrong, None), ("NoCount", wrong))
            self.assertEqual(raised(signs_of, DESK, (), wrong, None), ("NoCount", wrong))
        for wrong in ((1, 0), (0, 1), (2, 2)):
            self.assertEqual(raised(classes_at, RINGS, wrong), ("NoCount", wrong))
            self.assertEqual(raised(class_of, TAPES, wrong, None), ("NoCount", wrong))
        # Not enough for the row that is taken, too.
        row = (POP, POP, TAKE)
        for wrong in ((0, 2), (1, 1), (0, 0)):
            self.assertEqual(raised(signs_of, DESK, row, wrong, None), ("NoCount", wrong))
            self.assertIsNone(raised(classes_at, DESK, wrong))
        self.assertEqual(signs_of(DESK, row, (1, 2), (0, 0)), [("r",)])
        self.assertEqual(signs_of(DESK, row, (48, 48), (0, 0)), [("r",)])

    def test_no_class(self):
        for wrong in (*WRONG_CLASSES, *ODD):
            self.assertEqual(raised(signs_of, DESK, ROW, (0, 1), wrong), ("NoClass", wrong))
        for wrong in ((3, 0), (0, 4), (0, -1)):
            self.assertEqual(raised(signs_of, RINGS, (), (0, 0), wrong), ("NoClass", wrong))
        self.assertEqual(raised(signs_of, TAPES, (), (0, 0), (0, 1)), ("NoClass", (0, 1)))
        self.assertIsNone(raised(signs_of, RINGS, (), (0, 0), (2, 3)))

    def test_no_load(self):
        for wrong in (None, (), (((), ()),), [((), ()), ("x",)], (((), ()), ("x", "x")), (((),), ("x",)), ((["x"], ()), ("x",))):
            self.assertEqual(raised(class_of, DESK, (0, 0), wrong), ("NoContents", wrong))
        self.assertEqual(raised(class_of, RINGS, (0, 0), ((("x",) * 3, ()), ()))[0], "NoContents")


if __name__ == "__main__":
    unittest.main()
