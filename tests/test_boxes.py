"""Promise [2]: rows done step by step, where they fail, what they leave."""

import unittest

from boxeffects.boxes import course_of, failing_step, left_by_row
from small import QUEUE_STEPS, RING_STEPS, STACK_STEPS, TAPE_STEPS, TOO_MANY, raised, rows, tapes, words

STACK = ("stack",)
QUEUE = ("queue",)
TAPE = ("tape",)
HEAP = ("heap",)
TABLE = ("table",)
DROP = ("ring", 2, "drop")
IGNORE = ("ring", 2, "ignore")
FAIL = ("ring", 2, "fail")
GAUGE_STOP = ("gauge", 9, "stop")
GAUGE_FAIL = ("gauge", 9, "fail")

# A kind, a step, a contents, and what the step leaves, None where it fails.
STEPS = (
    (STACK, ("push", "x"), (), ("x",)),
    (STACK, ("push", "x"), ("a", "b"), ("x", "a", "b")),
    (STACK, ("pop", "a"), ("a", "b"), ("b",)),
    (STACK, ("pop", "b"), ("a", "b"), None),
    (STACK, ("pop", "a"), (), None),
    (QUEUE, ("put", "x"), (), ("x",)),
    (QUEUE, ("put", "x"), ("a", "b"), ("a", "b", "x")),
    (QUEUE, ("take", "a"), ("a", "b"), ("b",)),
    (QUEUE, ("take", "b"), ("a", "b"), None),
    (QUEUE, ("take", "a"), (), None),
    (DROP, ("put", "x"), ("a",), ("a", "x")),
    (DROP, ("put", "x"), ("a", "b"), ("b", "x")),
    (DROP, ("take",), ("a", "b"), ("b",)),
    (DROP, ("take",), (), None),
    (("ring", 1, "drop"), ("put", "x"), ("a",), ("x",)),
    (IGNORE, ("put", "x"), ("a",), ("a", "x")),
    (IGNORE, ("put", "x"), ("a", "b"), ("a", "b")),
    (IGNORE, ("take",), ("a", "b"), ("b",)),
    (IGNORE, ("take",), (), None),
    (FAIL, ("put", "x"), ("a",), ("a", "x")),
    (FAIL, ("put", "x"), ("a", "b"), None),
    (FAIL, ("take",), ("a", "b"), ("b",)),
    (FAIL, ("take",), (), None),
    (TAPE, ("left",), (((-1, "b"), (4, "c")), "a"), (((0, "b"), (5, "c")), "a")),
    (TAPE, ("right",), (((-1, "b"), (4, "c")), "a"), (((-2, "b"), (3, "c")), "a")),
    (TAPE, ("write", "b"), ((), "a"), (((0, "b"),), "a")),
    (TAPE, ("write", "b"), (((-1, "c"), (0, "c"), (1, "c")), "a"), (((-1, "c"), (0, "b"), (1, "c")), "a")),
    (TAPE, ("write", "a"), (((-1, "c"), (0, "c"), (1, "c")), "a"), (((-1, "c"), (1, "c")), "a")),
    (TAPE, ("write", "a"), ((), "a"), ((), "a")),
    (TAPE, ("write", "b"), (((1, "c"),), "a"), (((0, "b"), (1, "c")), "a")),
    (TAPE, ("expect", "a"), (((1, "c"),), "a"), (((1, "c"),), "a")),
    (TAPE, ("expect", "c"), (((0, "c"),), "a"), (((0, "c"),), "a")),
    (TAPE, ("expect", "a"), (((0, "c"),), "a"), None),
    (TAPE, ("expect", "b"), ((), "a"), None),
    # Letters and names can be called as steps are.
    (STACK, ("push", "pop"), ("pop",), ("pop", "pop")),
    (STACK, ("pop", "push"), ("push",), ()),
    (QUEUE, ("put", "take"), ("a",), ("a", "take")),
    (QUEUE, ("take", "put"), ("put",), ()),
    (DROP, ("put", "take"), ("a",), ("a", "take")),
    (TAPE, ("write", "left"), ((), "a"), (((0, "left"),), "a")),
    (TAPE, ("expect", "left"), ((), "left"), ((), "left")),
    (TABLE, ("set", "set", "set"), (), (("set", "set"),)),
    (HEAP, ("insert", 5), (1, 5, 7), (1, 5, 5, 7)),
    (HEAP, ("insert", -999), (-1000, 1000), (-1000, -999, 1000)),
    (HEAP, ("insert", 999), (), (999,)),
    (HEAP, ("least",), (1, 1, 7), (1, 7)),
    (HEAP, ("least",), (), None),
    (GAUGE_STOP, ("add", 3), 5, 8),
    (GAUGE_STOP, ("add", 4), 5, 9),
    (GAUGE_STOP, ("add", 5), 5, 9),
    (GAUGE_STOP, ("sub", 5), 5, 0),
    (GAUGE_STOP, ("sub", 6), 5, 0),
    (GAUGE_FAIL, ("add", 4), 5, 9),
    (GAUGE_FAIL, ("add", 5), 5, None),
    (GAUGE_FAIL, ("sub", 5), 5, 0),
    (GAUGE_FAIL, ("sub", 6), 5, None),
    (TABLE, ("set", "n", "x"), (), (("n", "x"),)),
    (TABLE, ("set", "n", "x"), (("a", "y"), ("n", "y"), ("o", "y")), (("a", "y"), ("n", "x"), ("o", "y"))),
    (TABLE, ("set", "b", "x"), (("aa", "y"), ("c", "y")), (("aa", "y"), ("b", "x"), ("c", "y"))),
    (TABLE, ("clear", "n"), (("a", "y"), ("n", "y")), (("a", "y"),)),
    (TABLE, ("clear", "n"), (("a", "y"),), (("a", "y"),)),
    (TABLE, ("expect", "n", "y"), (("n", "y"),), (("n", "y"),)),
    (TABLE, ("expect", "n", "x"), (("n", "y"),), None),
    (TABLE, ("expect", "n", "x"), (), None),
    (TABLE, ("absent", "n"), (("a", "y"),), (("a", "y"),)),
    (TABLE, ("absent", "n"), (("n", "y"),), None),
)
# All small rows of these steps on all these contents.
SMALL = (
    (STACK, STACK_STEPS, words(2)),
    (QUEUE, QUEUE_STEPS, words(2)),
    (DROP, RING_STEPS, words(2)),
    (IGNORE, RING_STEPS, words(2)),
    (FAIL, RING_STEPS, words(2)),
    (TAPE, TAPE_STEPS, tapes((-1, 0), ("a", "b"))),
    (HEAP, (("insert", 1), ("insert", 2), ("least",)), [(), (1,), (2, 2), (0, 1, 3)]),
    (GAUGE_STOP, (("add", 4), ("sub", 3), ("add", 9)), [0, 1, 5, 9]),
    (GAUGE_FAIL, (("add", 4), ("sub", 3), ("add", 9)), [0, 1, 5, 9]),
    (TABLE, (("set", "n", "x"), ("clear", "n"), ("expect", "n", "x"), ("absent", "m")), [(), (("m", "x"), ("n", "x"))]),
)


class Steps(unittest.TestCase):
    def test_each_step(self):
        for kind, step, contents, left in STEPS:
            with self.subTest(kind=kind, step=step, contents=contents):
                self.assertEqual(left_by_row(kind, (step,), contents), left)
                self.assertEqual(failing_step(kind, (step,), contents), 0 if left is None else None)
                self.assertEqual(course_of(kind, (step,), contents), [contents] if left is None else [contents, left])

    def test_no_steps(self):
        for kind, _, contents, _ in STEPS:
            self.assertEqual(left_by_row(kind, (), contents), contents)
            self.assertIsNone(failing_step(kind, (), contents))
            self.assertEqual(course_of(kind, (), contents), [contents])

    def test_rows_are_their_steps_one_by_one(self):
        for kind, steps, many in SMALL:
            for row in rows(steps, 3):
                for contents in many:
                    self.check_row(kind, row, contents)

    def check_row(self, kind, row, contents):
        course = [contents]
        while len(course) <= len(row):
            behind = left_by_row(kind, (row[len(course) - 1],), course[-1])
            if behind is None:
                break
            course.append(behind)
        worked = len(course) > len(row)
        self.assertEqual(course_of(kind, row, contents), course)
        self.assertEqual(left_by_row(kind, row, contents), course[-1] if worked else None)
        self.assertEqual(failing_step(kind, row, contents), None if worked else len(course) - 1)


class Errors(unittest.TestCase):
    def test_errors_in_their_order(self):
        for call in (left_by_row, failing_step, course_of):
            self.assertEqual(raised(call, ["stack"], None, None), ("NoKind", ["stack"]))
            self.assertEqual(raised(call, ("ring", True, "drop"), (), ()), ("NoKind", ("ring", True, "drop")))
            self.assertEqual(raised(call, STACK, [("push", "a")], None), ("NoRow", [("push", "a")]))
            self.assertEqual(raised(call, STACK, (("put", "a"),), ()), ("NoRow", (("put", "a"),)))
            self.assertEqual(raised(call, STACK, (("push", "a"),) * 61, ()), ("NoRow", (("push", "a"),) * 61))
            self.assertEqual(raised(call, STACK, (), ["a"]), ("NoContents", ["a"]))
            self.assertEqual(raised(call, STACK, (), ("a",) * 4001), ("NoContents", ("a",) * 4001))
            self.assertEqual(raised(call, GAUGE_FAIL, (), True), ("NoContents", True))
            self.assertEqual(raised(call, FAIL, (), ("a",) * 3), ("NoContents", ("a",) * 3))

    def test_too_many(self):
        signs = "abcdefghijklmnopq"
        names = [one + two + three for one in signs for two in signs for three in signs]
        full = (
            (STACK, ("push", "a"), ("pop", "a"), ("pop", "b"), ("a",) * 4000),
            (QUEUE, ("put", "a"), ("take", "a"), ("take", "b"), ("a",) * 4000),
            (HEAP, ("insert", 5), ("least",), None, (5,) * 4000),
            (TAPE, ("write", "b"), ("write", "a"), ("expect", "c"), (tuple((k, "b") for k in range(1, 4001)), "a")),
            (TABLE, ("set", "zz", "x"), ("clear", "zz"), ("absent", "aaa"), tuple((name, "x") for name in names[:4000])),
        )
        for kind, more, less, failing, contents in full:
            with self.subTest(kind=kind):
                self.assertEqual(raised(left_by_row, kind, (more,), contents), TOO_MANY)
                self.assertEqual(raised(course_of, kind, (more,), contents), TOO_MANY)
                self.assertIsNone(failing_step(kind, (more,), contents))
                # What stands in between is told by course_of alone.
                self.assertIsNone(raised(left_by_row, kind, (more, less), contents))
                self.assertEqual(raised(course_of, kind, (more, less), contents), TOO_MANY)
                self.assertIsNone(failing_step(kind, (more, less), contents))
                if failing is not None:
                    self.assertIsNone(left_by_row(kind, (more, failing), contents))
                    self.assertEqual(raised(course_of, kind, (more, failing), contents), TOO_MANY)
                    self.assertEqual(failing_step(kind, (more, failing), contents), 1)
                    self.assertEqual(course_of(kind, (failing, more), contents), [contents])

    def test_too_many_is_behind_the_other_errors(self):
        self.assertEqual(raised(left_by_row, STACK, (("push", "a"),), ["a"] * 4000), ("NoContents", ["a"] * 4000))

    def test_4000_are_let(self):
        contents = ("a",) * 3999
        self.assertEqual(left_by_row(STACK, (("push", "b"),), contents), ("b",) + contents)
        self.assertEqual(course_of(QUEUE, (("put", "b"),), contents), [contents, contents + ("b",)])


if __name__ == "__main__":
    unittest.main()
