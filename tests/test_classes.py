"""Promise [14], classes: forms of moved rows in a class, what they do to loads, told loads."""

import unittest

from boxeffects.classes import form_in, is_moved_form, moved_left, moved_works, told_load
from boxeffects.registers import load_left
from boxeffects.signs import class_of, classes_at, depths_of
from moved import DESKS, DROP, FAIL, QUEUE, STACK, TAPE, WRONG_DESKS, all_words, cases, moved_steps, some_loads
from small import ODD, TOO_MANY, Everything, raised, rows

DESK = ((("q", QUEUE), ("s", STACK)), ("r",))
ROW = (("s", ("draw", "r")), ("is", "r", "a"), ("q", ("lay", "r")))
FORM = ((((("s", 1),), "a"),), ((((), ("a",)), ((), ())), ("a",)))
TAPES = ((("d", DROP), ("t", TAPE)), ("a", "t"))
ONE_TAPE = ((("t", TAPE),), ("a", "b"))
RING = ((("d", DROP),), ("a", "b"))
LOOK, RIGHT, LEFT, LAY = ("t", ("look", "a")), ("t", ("right",)), ("t", ("left",)), ("t", ("lay", "a"))
LOOK_B, LAY_B = ("t", ("look", "b")), ("t", ("lay", "b"))
A, B, R = ("a",), ("b",), ("r",)


def form_here(desk, row, cls):
    """The form of a row in a class at its own depths."""
    return form_in(desk, row, depths_of(desk, row), cls)


class Forms(unittest.TestCase):
    def test_example_of_the_document(self):
        self.assertIsNone(form_in(DESK, ROW, (0, 1), (0, 0)))
        self.assertEqual(form_in(DESK, ROW, (0, 1), (0, 1)), FORM)

    def test_beside_plain_runs(self):
        worked = 0
        for draw, desk, row, depths in cases(1, 600, 8):
            for load in some_loads(draw, desk, 4):
                cls = class_of(desk, depths, load)
                form = form_in(desk, row, depths, cls)
                left = load_left(desk, row, load)
                worked += left is not None
                self.assertIs(moved_works(desk, depths, cls, form, load), left is not None)
                self.assertEqual(moved_left(desk, depths, cls, form, load), left)
        self.assertGreater(worked, 1000)

    def test_all_short_rows_of_a_ring_beside_plain_runs(self):
        steps = (("d", ("put", "x")), ("d", ("take",)), ("d", ("draw", "a")), ("d", ("lay", "a")), ("is", "a", "x"))
        for kind in (DROP, FAIL, ("ring", 1, "drop"), ("ring", 1, "fail")):
            desk = ((("d", kind),), ("a",))
            loads = [((word,), (letter,)) for word in all_words("xy", 0, kind[1]) for letter in "xy"]
            for row in rows(steps, 3):
                for load in loads:
                    cls = (len(load[0][0]),)
                    form = form_in(desk, row, (0,), cls)
                    self.assertEqual(moved_left(desk, (0,), cls, form, load), load_left(desk, row, load))

    def test_rings_by_hand(self):
        row = (("d", ("lay", "a")), ("d", ("draw", "a")))
        same = ((), ((((), ()),), (A, B)))
        self.assertEqual(form_here(RING, row, (0,)), same)
        self.assertEqual(form_here(RING, row, (1,)), ((), ((((A,), ()),), (("d", 1), B))))
        self.assertEqual(form_here(RING, row, (2,)), ((), ((((A,), ()),), (("d", 2), B))))
        by_fail = ((("d", FAIL),), ("a", "b"))
        self.assertEqual(form_here(by_fail, row, (1,)), ((), ((((A,), ()),), (("d", 1), B))))
        self.assertIsNone(form_here(by_fail, row, (2,)))
        self.assertIsNone(form_here(RING, (("d", ("take",)),), (0,)))

    def test_stacks_and_queues_by_hand(self):
        desk = ((("q", QUEUE), ("s", STACK)), ("a",))
        row = (("q", ("draw", "a")), ("s", ("pop", "x")), ("s", ("lay", "a")), ("q", ("put", "z")))
        known = (((("s", 1),), "x"),)
        closed = ((((("q", 2), "z"), ()), ((("q", 1), ("s", 2)), ())), (("q", 1),))
        self.assertEqual(form_in(desk, row, (3, 4), (2, 2)), (known, closed))
        open_queue = ((((("q", 2),), ("z",)), ((("q", 1), ("s", 2)), ())), (("q", 1),))
        self.assertEqual(form_in(desk, row, (2, 2), (2, 2)), (known, open_queue))
        self.assertIsNone(form_in(desk, row, (2, 2), (0, 2)))
        self.assertIsNone(form_in(desk, row, (2, 2), (2, 0)))
        # At depth 0 the one class is open.
        self.assertEqual(form_in(desk, (("q", ("put", "z")), ("s", ("push", "y"))), (0, 0), (0, 0)),
                         ((), ((((), ("z",)), (("y",), ())), (A,))))

    def test_tapes_by_hand(self):
        row = (LOOK, RIGHT, LAY, ("t", ("expect", "x")))
        self.assertEqual(form_here(ONE_TAPE, row, (0,)), ((((("t", 0),), "x"),), (((1, ((1, "x"),)),), ("x", B))))
        row = (LOOK, RIGHT, LOOK_B, ("same", "a", "b"), LAY)
        tied = (((("t", 0), ("t", 1)), None),)
        # What lies there already is not written.
        self.assertEqual(form_here(ONE_TAPE, row, (0,)), (tied, (((1, ()),), (("t", 0), ("t", 0)))))
        row = (LOOK, LEFT, LOOK_B, LAY, RIGHT, LAY_B)
        swapped = (0, ((-1, ("t", 0)), (0, ("t", -1))))
        self.assertEqual(form_here(ONE_TAPE, row, (0,)), ((), ((swapped,), (("t", 0), ("t", -1)))))
        row = (("t", ("expect", "x")), ("t", ("write", "x")), RIGHT, ("t", ("write", "y")))
        self.assertEqual(form_here(ONE_TAPE, row, (0,)), ((((("t", 0),), "x"),), (((1, ((1, "y"),)),), (A, B))))

    def test_a_box_and_a_register_called_alike(self):
        row = (("t", ("look", "t")), ("same", "a", "t"), ("t", ("lay", "a")))
        tied = (((A, ("t", 0)), None),)
        left = ((((), ()), (0, ())), (A, A))
        self.assertEqual(form_in(TAPES, row, (0, 0), (0, 0)), (tied, left))
        row = (("same", "a", "t"), ("t", ("look", "a")))
        self.assertEqual(form_in(TAPES, row, (0, 0), (0, 0)),
                         ((((A, ("t",)), None),), ((((), ()), (0, ())), (("t", 0), A))))

    def test_ties_by_letters_and_ties_that_cannot_be_kept(self):
        tied = (((A, B), "x"),)
        same = ((((), ()),), ("x", "x"))
        self.assertEqual(form_here(RING, (("is", "a", "x"), ("is", "b", "x")), (0,)), (tied, same))
        self.assertEqual(form_here(RING, (("same", "a", "b"), ("is", "a", "x")), (0,)), (tied, same))
        self.assertIsNone(form_here(RING, (("same", "a", "b"), ("is", "a", "x"), ("is", "b", "y")), (0,)))
        self.assertIsNone(form_here(RING, (("is", "a", "x"), ("is", "a", "y")), (0,)))
        stack = ((("s", STACK),), ())
        for row in ((("s", ("push", "x")), ("s", ("pop", "y"))), (("s", ("pop", "x")), ("s", ("push", "x")), ("s", ("pop", "y")))):
            for cls in classes_at(stack, depths_of(stack, row)):
                self.assertIsNone(form_here(stack, row, cls))
        # Letters that are alike tie nothing.
        self.assertEqual(form_here(stack, (("s", ("push", "x")), ("s", ("pop", "x"))), (0,)), ((), ((((), ()),), ())))

    def test_fails_outright_ahead_of_what_is_tied(self):
        row = (("d", ("take",)), ("is", "a", "x"), ("is", "a", "y"))
        self.assertEqual([form_here(RING, row, (many,)) for many in range(3)], [None] * 3)
        self.assertEqual([form_here(RING, row[:1], (many,)) is None for many in range(3)], [True, False, False])


class IsForm(unittest.TestCase):
    def test_forms_of_rows_are(self):
        for _, desk, row, depths in cases(2, 200, 8):
            for cls in classes_at(desk, depths):
                form = form_in(desk, row, depths, cls)
                self.assertIs(is_moved_form(desk, depths, cls, form), form is not None)

    def check(self, right, parts, left, desk=DESK, depths=(1, 2), cls=(1, 1)):
        """Check whether parts and what is left, of DESK if none is told, are a form."""
        self.assertIs(is_moved_form(desk, depths, cls, (parts, left)), right)

    def test_parts(self):
        left = (((("z",), ()), (("z",), ())), ("z",))
        right = ((), (((R, ("s", 1)), None),), (((R,), "a"),), (((("q", 1),), "a"), ((R, ("s", 1)), None)),
                 (((("q", 1),), "a"), ((R,), "b")))
        for parts in right:
            self.check(True, parts, left)
        wrong = (
            None, [], (((R,), None),), (((), "a"),), (((), None),), (((R,), "A"),), (((R,), 1),), ((R, "a"),), (((R,),),),
            (([R], "a"),), ([(R,), "a"],), (((R,), "a", "a"),), (((("s", 1), R), None),), (((R, R), None),), (((R, R), "a"),),
            (((("x",),), "a"),), (((("s", 2),), "a"),), (((("s", 0),), "a"),), (((("q", 2),), "a"),), (((("s", True),), "a"),),
            (((("s", None),), "a"),), (((["s", 1],), "a"),), (((("s", 1, 1),), "a"),), ((((),), "a"),), ((("r",), "a"),),
            (((R, ("s", 1)), None), ((("q", 1),), "a")), (((("q", 1),), "a"), ((R,), "a")),
            (((("q", 1), R), None), ((R, ("s", 1)), None)), (((R,), "a"), ((R,), "b")), (((Everything(),), "a"),),
            (((R,), Everything()),), ((((Everything(),),), "a"),), ((((Everything(), 1),), "a"),), (((("s", 1), R), "a"),), (((("s", 1), ("q", 1)), "b"),),
        )
        for parts in wrong:
            self.check(False, parts, left)

    def test_terms_as_the_parts_tell_them(self):
        known = (((("s", 1),), "a"),)
        tied = (((R, ("s", 1)), None),)
        for term, parts, right in ((("s", 1), (), True), (("s", 1), known, False), ("a", known, True), (R, tied, True),
                                   (("s", 1), tied, False), (("q", 1), tied, True), ("zzzz", (), True), ("abcde", (), False),
                                   (("s", 2), (), False), (None, (), False), (("x",), (), False), (1, (), False)):
            self.check(right, parts, (((("z",), ()), (("z",), ())), (term,)))
            self.check(right, parts, ((((term,), ()), (("z",), ())), ("z",)))
            self.check(right, parts, (((("z",), (term,)), (("z", term), ())), ("z",)))

    def test_what_is_left(self):
        box, stack, letters = (("z",), ()), (("z",), ()), (R,)
        wrong = (
            None, (), ((box, stack),), ((box, stack), letters, ()), [(box, stack), letters], ([box, stack], letters),
            ((box,), letters), ((box, stack, box), letters), ((box, stack), ()), ((box, stack), (R, R)), ((box, stack), [R]),
            ((None, stack), letters), (((("z",),), stack), letters), ((("z", ()), stack), letters), (((("z",), None), stack), letters),
            ((["z", ()], stack), letters), ((((), ["z"]), stack), letters), ((box, ((), ("z",))), letters), ((box, (0, ())), letters),
        )
        for left in wrong:
            with self.subTest(left=left):
                self.check(False, (), left)
        self.check(True, (), ((box, stack), letters))
        # The queue is open in this class, so it has a back; where it is not, it has none.
        self.check(True, (), ((((), ("z",)), stack), letters))
        self.check(False, (), ((((), ("z",)), stack), letters), cls=(0, 1))
        self.check(False, (), ((((), ("z",)), stack), letters), depths=(2, 2))
        self.check(True, (), ((box, stack), letters), cls=(0, 1))
        # A stack has none, open or not.
        for depths in ((1, 1), (1, 2)):
            self.check(True, (), ((box, stack), letters), depths=depths)
            self.check(False, (), ((box, ((), ("z",))), letters), depths=depths)
        self.check(False, (), ((box, ((("s", 1),), ())), letters), cls=(1, 0))

    def test_4000_terms_and_more(self):
        for many, right in ((4000, True), (4001, False)):
            word = (("q", 1), "z") * (many // 2) + ("z",) * (many % 2)
            self.check(right, (), (((word, ()), (("z",), ())), (R,)))
            self.check(right, (), ((((), word), (("z",), ())), (R,)))
            self.check(right, (), ((((), ()), (word, ())), (R,)))
        for many, right in ((0, True), (2, True), (3, False)):
            self.check(right, (), (((("z",) * many, ()),), (A, B)), RING, (0,), (1,))
            self.check(right, (), (((("z",) * many, ()),), (A,)), ((("d", FAIL),), ("a",)), (0,), (2,))
        self.check(False, (), (((("z",), ("z",)),), (A, B)), RING, (0,), (1,))

    def test_tapes(self):
        known = (((("t", 5),), "x"),)
        tied = (((("t", -1), ("t", 4)), None),)
        right = (((), (0, ())), ((), (-7, ((-2, "x"), (3, ("t", 9))))), (known, (0, ((4, "x"), (5, "y")))),
                 (tied, (0, ((-1, "x"), (3, ("t", -1))))), ((), (0, ((0, A),))))
        for parts, tape in right:
            self.check(True, parts, ((tape,), (A, B)), ONE_TAPE, (0,), (0,))
        wrong = (
            ((), (None, ())), ((), (True, ())), ((), (0,)), ((), (0, (), ())), ((), [0, ()]), ((), (0, [])), ((), (0, ((0, ("t", 0)),))),
            ((), (0, ((1, "x"), (1, "y")))), ((), (0, ((2, "x"), (1, "y")))), ((), (0, ((None, "x"),))), ((), (0, ((True, "x"),))),
            ((), (0, (("x", 0),))), ((), (0, ([0, "x"],))), ((), (0, ((0, "X"),))), ((), (0, ((0, "x", "y"),))), ((), (0, "x")),
            (known, (0, ((5, "x"),))), (known, (0, ((4, ("t", 5)),))), (tied, (0, ((4, ("t", -1)),))), (tied, (0, ((0, ("t", 4)),))),
            ((), ((), ())), ((), (0, ((0, ("t", None)),))),
        )
        for parts, tape in wrong:
            self.check(False, parts, ((tape,), (A, B)), ONE_TAPE, (0,), (0,))

    def test_none_and_odd_values(self):
        for value in (None, FORM[0], FORM + ((),), list(FORM), (FORM,), *ODD):
            self.assertIs(is_moved_form(DESK, (0, 1), (0, 1), value), False)
        self.assertIs(is_moved_form(DESK, (0, 1), (0, 1), FORM), True)
        self.assertIs(is_moved_form(DESK, (0, 1), (0, 0), FORM), False)


class Loads(unittest.TestCase):
    def test_loads_of_another_class(self):
        load = ((("y",), ("a", "b")), ("k",))
        self.assertIs(moved_works(DESK, (0, 1), (0, 1), FORM, load), True)
        self.assertEqual(moved_left(DESK, (0, 1), (0, 1), FORM, load), ((("y", "a"), ("b",)), ("a",)))
        for other in (((("y",), ()), ("k",)), (((), ("b",)), ("a",))):
            self.assertIs(moved_works(DESK, (0, 1), (0, 1), FORM, other), False)
            self.assertIsNone(moved_left(DESK, (0, 1), (0, 1), FORM, other))
        form = form_in(DESK, (), (2, 2), (1, 1))
        for one in range(4):
            for other in range(4):
                load = ((("x",) * one, ("x",) * other), ("x",))
                self.assertIs(moved_works(DESK, (2, 2), (1, 1), form, load), (one, other) == (1, 1))

    def test_the_form_none_works_nowhere(self):
        load = (((), ()), ("k",))
        self.assertIs(moved_works(DESK, (0, 1), (0, 0), None, load), False)
        self.assertIsNone(moved_left(DESK, (0, 1), (0, 0), None, load))

    def test_too_long_to_be_told(self):
        row = (("q", ("put", "x")),)
        form = form_in(DESK, row, (0, 0), (0, 0))
        for many, told in ((3999, None), (4000, TOO_MANY)):
            load = ((("y",) * many, ()), ("k",))
            self.assertEqual(raised(moved_left, DESK, (0, 0), (0, 0), form, load), told)
            self.assertIs(moved_works(DESK, (0, 0), (0, 0), form, load), True)
        row = (("t", ("write", "x")),)
        form = form_in(ONE_TAPE, row, (0,), (0,))
        pairs = tuple((place, "y") for place in range(1, 4001))
        self.assertEqual(raised(moved_left, ONE_TAPE, (0,), (0,), form, (((pairs, "z"),), ("k", "k"))), TOO_MANY)
        self.assertIsNone(raised(moved_left, ONE_TAPE, (0,), (0,), form, (((pairs, "x"),), ("k", "k"))))
        self.assertIsNone(raised(moved_left, ONE_TAPE, (0,), (0,), form, (((pairs[1:], "z"),), ("k", "k"))))

    def test_forms_that_no_row_of_24_steps_has(self):
        left = (((("q", 1),) * 3, ()), (("z",) * 3, ()))
        form = ((((("q", 1), R), None),), (left, (("q", 1),)))
        self.assertEqual(moved_left(DESK, (2, 0), (1, 0), form, ((("k",), ("x",)), ("k",))),
                         ((("k",) * 3, ("z",) * 3 + ("x",)), ("k",)))
        self.assertIsNone(moved_left(DESK, (2, 0), (1, 0), form, ((("k",), ("x",)), ("l",))))
        self.assertEqual(moved_left(DESK, (2, 0), (1, 0), ((), (left, ("m",))), ((("k",), ()), ("l",))),
                         ((("k",) * 3, ("z",) * 3), ("m",)))


class ToldLoad(unittest.TestCase):
    def test_works_and_is_of_the_class(self):
        for _, desk, row, depths in cases(3, 300, 8):
            for cls in classes_at(desk, depths):
                form = form_in(desk, row, depths, cls)
                if form is not None:
                    load = told_load(desk, depths, cls, form)
                    self.assertEqual(class_of(desk, depths, load), cls)
                    self.assertEqual(load_left(desk, row, load), moved_left(desk, depths, cls, form, load))

    def test_by_hand(self):
        self.assertEqual(told_load(DESK, (0, 1), (0, 1), FORM), (((), ("a",)), ("b",)))
        # Signs by their order: (q, 1), (q, 2), (r,), (s, 1); open boxes have no rest.
        self.assertEqual(told_load(DESK, (2, 1), (2, 1), form_in(DESK, (), (2, 1), (2, 1))), ((("a", "b"), ("d",)), ("c",)))
        row = (("q", ("draw", "r")), ("s", ("draw", "r")), ("q", ("put", "b")))
        self.assertEqual(told_load(DESK, (1, 1), (1, 1), form_in(DESK, row, (1, 1), (1, 1))), ((("a",), ("d",)), ("c",)))
        tied = (((("q", 1), ("s", 1)), None), ((R,), "a"))
        form = (tied, (((), ()), ((), ())))
        self.assertEqual(told_load(DESK, (1, 1), (1, 1), (tied, (form[1], ("a",)))), ((("b",), ("b",)), ("a",)))

    def test_letters_of_the_form_alone_are_no_new_ones(self):
        # x is in no form behind the push and the pop, so it is free.
        row = (("s", ("push", "a")), ("s", ("pop", "a")), ("q", ("put", "c")), ("q", ("put", "b")))
        self.assertEqual(told_load(DESK, (1, 1), (1, 1), form_in(DESK, row, (1, 1), (1, 1))), ((("a",), ("e",)), ("d",)))

    def test_rests_of_tapes(self):
        # A place that is only written, or only moved over, has the rest; one that is read and kept has not.
        row = (LOOK, RIGHT, ("t", ("write", "a")), RIGHT, RIGHT, LAY)
        form = form_in(TAPES, row, (0, 0), (1, 0))
        self.assertEqual(told_load(TAPES, (0, 0), (1, 0), form), ((("c",), (((0, "e"),), "f")), ("b", "d")))
        two = ((("t", TAPE), ("u", TAPE)), ())
        self.assertEqual(told_load(two, (0, 0), (0, 0), form_in(two, (), (0, 0), (0, 0))), ((((), "a"), ((), "b")), ()))
        row = (("u", ("expect", "a")), ("t", ("expect", "b")), ("u", ("right",)), ("u", ("write", "b")))
        self.assertEqual(told_load(two, (0, 0), (0, 0), form_in(two, row, (0, 0), (0, 0))),
                         (((((0, "b"),), "c"), (((0, "a"),), "d")), ()))

    def test_many_new_letters(self):
        stack = ((("s", STACK),), ())
        form = form_in(stack, (), (48,), (48,))
        self.assertEqual(told_load(stack, (48,), (48,), form)[0][0][24:29], ("y", "z", "aa", "ab", "ac"))

    def test_too_many_places(self):
        for many, told in ((4000, None), (4001, TOO_MANY)):
            written = tuple((place, ("t", place + 10000)) for place in range(many))
            form = ((), (((0, written),), (A, B)))
            self.assertEqual(raised(told_load, ONE_TAPE, (0,), (0,), form), told)
        load = told_load(ONE_TAPE, (0,), (0,), ((), (((0, written[:4000]),), (A, B))))
        self.assertEqual((len(load[0][0][0]), load[0][0][0][0], load[1]), (4000, (10000, "c"), ("a", "b")))


class Errors(unittest.TestCase):
    def test_no_desk_ahead_of_all(self):
        odd = object()
        for wrong in WRONG_DESKS:
            for call, many in ((form_in, 3), (is_moved_form, 3), (moved_works, 4), (moved_left, 4), (told_load, 3)):
                self.assertEqual(raised(call, wrong, *[odd] * many), ("NoBoxes", wrong))

    def test_no_row(self):
        for wrong in (None, [ROW[0]], ROW[0], (("s", ("put", "x")),), (ROW[0],) * 25, *ODD):
            self.assertEqual(raised(form_in, DESK, wrong, None, None), ("NoRow", wrong))

    def test_no_depths(self):
        for wrong in (None, (), (0,), (0, 1, 0), [0, 1], (0, 49), (-1, 1), (True, 1), (0, 1.0), *ODD):
            self.assertEqual(raised(form_in, DESK, ROW, wrong, None), ("NoCount", wrong))
            self.assertEqual(raised(is_moved_form, DESK, wrong, None, None), ("NoCount", wrong))
            self.assertEqual(raised(moved_works, DESK, wrong, None, 1, None), ("NoCount", wrong))
            self.assertEqual(raised(moved_left, DESK, wrong, None, 1, None), ("NoCount", wrong))
            self.assertEqual(raised(told_load, DESK, wrong, None, None), ("NoCount", wrong))
        # Not enough for the row.
        self.assertEqual(raised(form_in, DESK, ROW, (0, 0), (0, 0)), ("NoCount", (0, 0)))
        self.assertEqual(raised(form_in, DESK, (("q", ("draw", "r")),) * 3, (2, 0), (0, 0)), ("NoCount", (2, 0)))

    def test_no_class(self):
        for wrong in (None, (), (0,), [0, 0], (0, 2), (1, 0), (-1, 0), (0, True), (0, 1.0), (0, 0, 0), *ODD):
            self.assertEqual(raised(form_in, DESK, ROW, (0, 1), wrong), ("NoClass", wrong))
            self.assertEqual(raised(is_moved_form, DESK, (0, 1), wrong, None), ("NoClass", wrong))
            self.assertEqual(raised(moved_works, DESK, (0, 1), wrong, 1, None), ("NoClass", wrong))
            self.assertEqual(raised(moved_left, DESK, (0, 1), wrong, 1, None), ("NoClass", wrong))
            self.assertEqual(raised(told_load, DESK, (0, 1), wrong, None), ("NoClass", wrong))
        self.assertEqual(raised(form_in, RING, (), (0,), (3,)), ("NoClass", (3,)))

    def test_no_form_then_no_load(self):
        for wrong in (FORM[0], list(FORM), FORM + FORM, *ODD):
            self.assertEqual(raised(moved_works, DESK, (0, 1), (0, 1), wrong, None), ("NoForm", wrong))
            self.assertEqual(raised(moved_left, DESK, (0, 1), (0, 1), wrong, None), ("NoForm", wrong))
            self.assertEqual(raised(told_load, DESK, (0, 1), (0, 1), wrong), ("NoForm", wrong))
        self.assertEqual(raised(told_load, DESK, (0, 1), (0, 1), None), ("NoForm", None))
        for wrong in (None, (), ((), ()), (((), ()), ()), (((), ("A",)), ("k",)), [((), ()), ("k",)], *ODD):
            for form in (FORM, None):
                self.assertEqual(raised(moved_works, DESK, (0, 1), (0, 1), form, wrong), ("NoContents", wrong))
                self.assertEqual(raised(moved_left, DESK, (0, 1), (0, 1), form, wrong), ("NoContents", wrong))

    def test_steps_of_all_desks_are_drawn(self):
        for desk in DESKS:
            verbs = {step[0] if len(step) == 3 else step[1][0] for step in moved_steps(desk)}
            self.assertGreater(len(verbs), 3)


if __name__ == "__main__":
    unittest.main()
