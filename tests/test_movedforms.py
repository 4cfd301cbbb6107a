"""Promise [15]: tables of moved rows, alike and less rows, tables put together."""

import unittest

from boxeffects.classes import form_in
from boxeffects.movedforms import (
    first_parting_class,
    is_table,
    moved_alike,
    moved_less,
    put_together,
    shared_depths,
    table_of,
)
from boxeffects.registers import load_left
from boxeffects.signs import class_of, classes_at, depths_of
from moved import DROP, QUEUE, STACK, TAPE, WRONG_DESKS, cases, near_row, some_loads, some_row
from small import ODD, raised

DESK = ((("q", QUEUE), ("s", STACK)), ("r",))
ROW = (("s", ("draw", "r")), ("is", "r", "a"), ("q", ("lay", "r")))
DRAW, LAY, PUSH, POP = ("s", ("draw", "r")), ("s", ("lay", "r")), ("s", ("push", "x")), ("s", ("pop", "x"))
GET, GIVE, PUT, TAKE = ("q", ("draw", "r")), ("q", ("lay", "r")), ("q", ("put", "x")), ("q", ("take", "x"))
ONE_TAPE = ((("t", TAPE),), ("a", "b"))
LOOK, LAY_A, RIGHT = ("t", ("look", "a")), ("t", ("lay", "a")), ("t", ("right",))
MANY = ((("p", STACK), ("q", QUEUE), ("s", STACK)), ())


def greater(one, other):
    return tuple(max(pair) for pair in zip(one, other))


class Tables(unittest.TestCase):
    def test_all_classes_ascending(self):
        for _, desk, row, depths in cases(11, 100, 6):
            table = table_of(desk, row, depths)
            self.assertEqual(list(table), classes_at(desk, depths))
            for cls in table:
                self.assertEqual(table[cls], form_in(desk, row, depths, cls))
            self.assertIs(is_table(desk, depths, table), True)

    def test_shared_depths(self):
        self.assertEqual(shared_depths(DESK, (POP, TAKE, TAKE), (POP, POP, POP, TAKE)), (2, 3))
        self.assertEqual(shared_depths(DESK, (PUSH, POP), ()), (0, 0))
        self.assertEqual(shared_depths(ONE_TAPE, (LOOK,), ()), (0,))
        for draw, desk, row, _ in cases(12, 100, 6):
            other = some_row(draw, desk, 6)
            self.assertEqual(shared_depths(desk, row, other), greater(depths_of(desk, row), depths_of(desk, other)))

    def test_is_table_of_bent_dicts(self):
        table = table_of(DESK, ROW, (0, 1))
        self.assertIs(is_table(DESK, (0, 1), table), True)
        self.assertIs(is_table(DESK, (0, 1), dict(reversed(table.items()))), True)
        self.assertIs(is_table(DESK, (0, 1), {(0, 0): None, (0, 1): None}), True)
        form = table[(0, 1)]
        for value in (
            {}, {(0, 0): None}, {(0, 1): form}, {**table, (0, 2): None}, {**table, "x": None}, {(0, 0): form, (0, 1): form},
            {(0, 0): None, (0, 1): form[0]}, {(0, 0): None, (0, 1): list(form)}, {(0, 0): None, (0, True): form},
            {(0, 0): None, (0, 1.0): form}, {(False, 0): None, (0, 1): form}, {(0, 0): None, (1, 0): form}, {(0, 0): None, 1: form},
            {(0, 0): (), (0, 1): form}, {(0, 0): False, (0, 1): form}, {(0, 0): None, (0, 1, 0): form}, None, [table], list(table),
            tuple(table.items()), "ab", *ODD,
        ):
            self.assertIs(is_table(DESK, (0, 1), value), False)
        self.assertIs(is_table(DESK, (0, 0), table), False)
        self.assertIs(is_table(DESK, (1, 1), table), False)

    def test_more_than_1000_classes(self):
        row = (("p", ("pop", "x")),) * 8 + (("q", ("take", "x")),) * 8
        self.assertEqual(raised(table_of, MANY, row, (9, 10, 9)), ("TooMany", 1000))
        self.assertEqual(len(table_of(MANY, row, (9, 9, 9))), 1000)
        other = row[:8] + (("s", ("pop", "x")),) * 12
        for call in (moved_alike, first_parting_class, moved_less):
            self.assertEqual(raised(call, MANY, row, other), ("TooMany", 1000))
            self.assertIsNone(raised(call, MANY, row, other[:9]))
        self.assertEqual(shared_depths(MANY, row, other), (8, 8, 12))
        # Tables may have more classes than are told.
        depths = (10, 10, 10)
        table = {cls: None for cls in [(one, two, three) for one in range(11) for two in range(11) for three in range(11)]}
        self.assertIs(is_table(MANY, depths, table), True)
        self.assertEqual(put_together(MANY, depths, table, depths, table), table)


class Beside(unittest.TestCase):
    def test_alike_and_less_beside_plain_runs(self):
        found = {True: 0, False: 0}
        for draw, desk, row, _ in cases(13, 500, 6):
            other = near_row(draw, desk, row)
            alike = moved_alike(desk, row, other)
            less = moved_less(desk, row, other)
            parting = first_parting_class(desk, row, other)
            found[alike] += 1
            self.assertIs(parting is None, alike)
            self.assertIs(less and moved_less(desk, other, row), alike)
            depths = shared_depths(desk, row, other)
            for load in some_loads(draw, desk, 8):
                left, second = load_left(desk, row, load), load_left(desk, other, load)
                if alike or (parting is not None and class_of(desk, depths, load) < parting):
                    self.assertEqual(left, second)
                if less and left is not None:
                    self.assertEqual(left, second)
        self.assertGreater(min(found.values()), 50)

    def test_the_parting_class_is_where_the_tables_are_unlike(self):
        for draw, desk, row, _ in cases(14, 200, 5):
            other = near_row(draw, desk, row)
            depths = shared_depths(desk, row, other)
            one, two = table_of(desk, row, depths), table_of(desk, other, depths)
            self.assertIs(moved_alike(desk, row, other), one == two)
            self.assertEqual(first_parting_class(desk, row, other), next((cls for cls in one if one[cls] != two[cls]), None))

    def test_alike_by_hand(self):
        # What is moved away and back, with the register's own letter behind it.
        self.assertIs(moved_alike(DESK, (PUSH, POP), ()), True)
        self.assertIs(moved_alike(DESK, (DRAW, LAY), (DRAW, LAY, DRAW, LAY)), True)
        self.assertIs(moved_alike(DESK, (DRAW, LAY), ()), False)
        self.assertEqual(first_parting_class(DESK, (DRAW, LAY), ()), (0, 0))
        self.assertIs(moved_alike(DESK, (POP, PUSH), (DRAW, ("is", "r", "x"), LAY)), False)
        self.assertEqual(first_parting_class(DESK, (POP, PUSH), (DRAW, ("is", "r", "x"), LAY)), (0, 1))
        # Steps of unlike boxes may change places.
        self.assertIs(moved_alike(DESK, (POP, PUT), (PUT, POP)), True)
        self.assertIs(moved_alike(ONE_TAPE, (LOOK, LAY_A), (LOOK,)), True)
        self.assertIs(moved_alike(ONE_TAPE, (LOOK, RIGHT, LAY_A), (LOOK, RIGHT)), False)

    def test_less_by_hand(self):
        self.assertIs(moved_less(DESK, (POP, PUSH), ()), True)
        self.assertIs(moved_less(DESK, (), (POP, PUSH)), False)
        self.assertIs(moved_less(DESK, (PUSH, ("s", ("pop", "y"))), (PUT,)), True)
        # Told by the parts of the first row the letters are the same.
        self.assertIs(moved_less(DESK, (("is", "r", "x"), LAY), (PUSH,)), True)
        self.assertIs(moved_less(DESK, (PUSH,), (("is", "r", "x"), LAY)), False)
        # A tape's pair whose term is the place's own sign, as the first row's ties tell both, is left out.
        here = ("t", ("expect", "x"))
        self.assertIs(moved_less(ONE_TAPE, (here,), (("t", ("write", "x")),)), True)
        self.assertIs(moved_less(ONE_TAPE, (here,), (("t", ("write", "y")),)), False)
        tied = (LOOK, RIGHT, ("t", ("look", "b")), ("same", "a", "b"))
        self.assertIs(moved_less(ONE_TAPE, tied, (LOOK, RIGHT, LAY_A, ("copy", "a", "b"))), True)
        self.assertIs(moved_less(ONE_TAPE, (LOOK, RIGHT, LAY_A, ("copy", "a", "b")), tied), False)
        # Whatever the second row gives a letter the first one must, too.
        self.assertIs(moved_less(DESK, (DRAW,), (DRAW, ("is", "r", "x"))), False)
        self.assertIs(moved_less(DESK, (DRAW, ("is", "r", "x")), (DRAW,)), True)


class Together(unittest.TestCase):
    def test_beside_the_table_of_both_rows(self):
        done = 0
        for draw, desk, row, _ in cases(15, 300, 5):
            other = some_row(draw, desk, 4)
            depths = greater(depths_of(desk, row), depths_of(desk, row + other))
            if len(classes_at(desk, depths)) > 100:
                continue
            second = depths_of(desk, other)
            told = put_together(desk, depths, table_of(desk, row, depths), second, table_of(desk, other, second))
            self.assertEqual(told, table_of(desk, row + other, depths))
            self.assertEqual(list(told), classes_at(desk, depths))
            self.assertIs(is_table(desk, depths, told), True)
            done += any(told.values())
        self.assertGreater(done, 100)

    def test_in_both_bracketings(self):
        for draw, desk, one, _ in cases(16, 150, 3):
            two, three = some_row(draw, desk, 3), some_row(draw, desk, 3)
            depths = [greater(depths_of(desk, one), depths_of(desk, one + two + three)),
                      greater(depths_of(desk, two), depths_of(desk, two + three)), depths_of(desk, three)]
            tables = [table_of(desk, row, own) for row, own in zip((one, two, three), depths)]
            first = put_together(desk, depths[0], tables[0], depths[1], tables[1])
            last = put_together(desk, depths[1], tables[1], depths[2], tables[2])
            told = put_together(desk, depths[0], first, depths[2], tables[2])
            self.assertEqual(told, put_together(desk, depths[0], tables[0], depths[1], last))
            self.assertEqual(told, table_of(desk, one + two + three, depths[0]))

    def test_at_depths_that_are_more_than_enough(self):
        row, other = (DRAW, GIVE), (GET, LAY)
        for depths, second in (((1, 2), (1, 1)), ((2, 3), (2, 2)), ((3, 4), (1, 2)), ((1, 1), (1, 0))):
            told = put_together(DESK, depths, table_of(DESK, row, depths), second, table_of(DESK, other, second))
            self.assertEqual(told, table_of(DESK, row + other, depths))

    def test_not_deep_enough(self):
        # In an open box the first row leaves fewer terms than the second one asks.
        table = table_of(DESK, (POP,), (0, 1))
        second = table_of(DESK, (POP,), (0, 1))
        self.assertEqual(raised(put_together, DESK, (0, 1), table, (0, 1), second), ("NoForm", second))
        deeper = table_of(DESK, (POP,), (0, 2))
        self.assertEqual(put_together(DESK, (0, 2), deeper, (0, 1), second), table_of(DESK, (POP, POP), (0, 2)))
        table = table_of(DESK, (PUT,), (0, 0))
        second = table_of(DESK, (TAKE,), (1, 0))
        self.assertEqual(raised(put_together, DESK, (0, 0), table, (1, 0), second), ("NoForm", second))
        # A row that is nowhere is deep enough for all.
        table = table_of(DESK, (PUSH, ("s", ("pop", "y"))), (0, 0))
        second = table_of(DESK, (POP, TAKE), (1, 1))
        self.assertEqual(put_together(DESK, (0, 0), table, (1, 1), second), {(0, 0): None})

    def test_longer_than_forms_are(self):
        left = (((), ("z",) * 3000), ((), ()))
        table = {(0, 0): ((), (left, ("k",)))}
        told = put_together(DESK, (0, 0), table, (0, 0), table)
        self.assertEqual(told, {(0, 0): ((), ((((), ("z",) * 6000), ((), ())), ("k",)))})
        self.assertIs(is_table(DESK, (0, 0), told), False)

    def test_tapes_and_rings_by_hand(self):
        one, other = table_of(ONE_TAPE, (LOOK, RIGHT), (0,)), table_of(ONE_TAPE, (LAY_A, LOOK, RIGHT), (0,))
        told = put_together(ONE_TAPE, (0,), one, (0,), other)
        self.assertEqual(told, {(0,): ((), (((2, ((1, ("t", 0)),)),), (("t", 0), ("b",))))})
        # What the second one looks at is what the first one wrote there, counted from where the head stands.
        one, other = table_of(ONE_TAPE, (RIGHT, ("t", ("write", "x"))), (0,)), table_of(ONE_TAPE, (LOOK,), (0,))
        told = put_together(ONE_TAPE, (0,), one, (0,), other)
        self.assertEqual(told, {(0,): ((), (((1, ((1, "x"),)),), ("x", ("b",))))})
        ring = ((("d", DROP),), ())
        put = table_of(ring, (("d", ("put", "x")),), (0,))
        self.assertEqual(put_together(ring, (0,), put, (0,), put), table_of(ring, (("d", ("put", "x")),) * 2, (0,)))


class Errors(unittest.TestCase):
    def test_no_desk_ahead_of_all(self):
        odd = object()
        for wrong in WRONG_DESKS:
            for call, many in ((table_of, 2), (shared_depths, 2), (moved_alike, 2), (first_parting_class, 2), (moved_less, 2),
                               (is_table, 2), (put_together, 4)):
                self.assertEqual(raised(call, wrong, *[odd] * many), ("NoBoxes", wrong))

    def test_no_row(self):
        for wrong in (None, [POP], POP, (("s", ("put", "x")),), (POP,) * 25, *ODD):
            self.assertEqual(raised(table_of, DESK, wrong, None), ("NoRow", wrong))
            for call in (shared_depths, moved_alike, first_parting_class, moved_less):
                self.assertEqual(raised(call, DESK, wrong, None), ("NoRow", wrong))
                self.assertEqual(raised(call, DESK, (POP,), wrong), ("NoRow", wrong))

    def test_no_depths(self):
        table = table_of(DESK, (), (0, 0))
        for wrong in (None, (), (0,), [0, 0], (0, 49), (-1, 0), (True, 0), (0, 1.0), *ODD):
            self.assertEqual(raised(table_of, DESK, (), wrong), ("NoCount", wrong))
            self.assertEqual(raised(is_table, DESK, wrong, None), ("NoCount", wrong))
            self.assertEqual(raised(put_together, DESK, wrong, None, None, None), ("NoCount", wrong))
            self.assertEqual(raised(put_together, DESK, (0, 0), table, wrong, None), ("NoCount", wrong))
        self.assertEqual(raised(table_of, DESK, (POP,), (1, 0)), ("NoCount", (1, 0)))
        # Ahead of how many classes there are.
        self.assertEqual(raised(table_of, MANY, (("p", ("pop", "x")),) * 2, (1, 48, 48)), ("NoCount", (1, 48, 48)))

    def test_no_table(self):
        table = table_of(DESK, (), (0, 0))
        for wrong in (None, {}, {(0, 0): 1}, {(0, 1): None}, list(table), *ODD):
            self.assertEqual(raised(put_together, DESK, (0, 0), wrong, None, None), ("NoForm", wrong))
            self.assertEqual(raised(put_together, DESK, (0, 0), table, (0, 0), wrong), ("NoForm", wrong))


if __name__ == "__main__":
    unittest.main()
