"""Promise [4], and [0.2] (a) and (b) of queues: forms, short contents, sources, clashes."""

import unittest

from boxeffects.boxes import left_by_row
from boxeffects.queues import (
    bears_length,
    is_queue_form,
    normal_least,
    queue_clash,
    queue_form,
    queue_left,
    queue_shorts,
    queue_source,
    queue_then,
    queue_works,
    shows_queue_clash,
)
from small import ODD, QUEUE_STEPS, TOO_MANY, raised, rows, words

QUEUE = ("queue",)
LONG = ("a",) * 4000
WRONG_ROWS = (None, [("put", "a")], ("put", "a"), (("push", "a"),), (("put", "a"),) * 61, (("take", True),))
WRONG_FORMS = (None, (), ((), ()), ((), (), 0, 0), [(), (), 0], ([], (), 0), ((), ["a"], 0), ((), (), 1), ((), (), -1),
               ((), (), False), ((), (), None), (("a",), (), 0), (("a",), ("b",), 0), (("a",), ("b",), 2),
               (("a",), ("a",), True), (("A",), (), 1), (("a", "b"), ("a", "b"), 1), (("a",), ("a",), "0"),
               (LONG + ("a",), (), 4001), ((), LONG + ("a",), 0))
WRONG_CONTENTS = (None, ["a"], "a", ("a", 1), LONG + ("a",))
WRONG_LENGTHS = (None, True, False, -1, 4001, 1.0, "a", [], 10 ** 40)


def begins(word, other):
    """Whether a word begins another one."""
    return other[:len(word)] == word


def normal(u, v, d):
    """The normal number for d, straight by its definition."""
    return next(k for k in range(d, len(u) + 1) if k == len(u) or begins(u[k:], v))


def small_forms(most=2):
    """All forms with words of up to so many letters."""
    return [
        (u, v, d) for u in words(most) for v in words(most) for d in range(len(u) + 1)
        if d == len(u) or begins(u[d:], v)
    ]


class Forms(unittest.TestCase):
    def test_single_steps_and_the_example(self):
        self.assertEqual(queue_form((("put", "x"),)), ((), ("x",), 0))
        self.assertEqual(queue_form((("take", "x"),)), (("x",), (), 1))
        self.assertEqual(queue_form(()), ((), (), 0))
        row = (("put", "a"), ("take", "a"), ("put", "b"), ("take", "b"))
        self.assertEqual(queue_form(row), (("a", "b"), ("a", "b"), 0))
        self.assertEqual(queue_form((("put", "a"), ("take", "b"))), (("b",), ("a",), 1))

    def test_letters_that_are_called_as_steps(self):
        row = (("put", "take"), ("take", "put"))
        self.assertEqual(queue_form(row), (("put",), ("take",), 1))
        self.assertEqual(queue_clash(row, 0), ("unlike", 0, 1))
        self.assertEqual(queue_source(row, 1, 0), ("box", 0))

    def test_forms_do_what_the_steps_do(self):
        for row in rows(QUEUE_STEPS, 4):
            form = queue_form(row)
            self.assertTrue(is_queue_form(form), row)
            for contents in words(5):
                left = left_by_row(QUEUE, row, contents)
                self.assertIs(queue_works(form, contents), left is not None)
                self.assertEqual(queue_left(form, contents), left)

    def test_alike_just_if_the_forms_are_equal(self):
        effects = {}
        contents = words(5)
        for row in rows(QUEUE_STEPS, 4):
            effect = tuple(left_by_row(QUEUE, row, word) for word in contents)
            self.assertEqual(effects.setdefault(effect, queue_form(row)), queue_form(row))
        self.assertEqual(len(set(effects.values())), len(effects))

    def test_each_small_triple_is_a_form_of_some_row(self):
        for u, v, d in small_forms():
            row = [("take", x) for x in u[:d]]
            for number, letter in enumerate(v):
                row.append(("put", letter))
                if d + number < len(u):
                    row.append(("take", u[d + number]))
            row += [("take", x) for x in u[d + len(v):]]
            self.assertEqual(queue_form(tuple(row)), (u, v, d))

    def test_normal_least(self):
        for u in words(4):
            for v in words(4):
                for d in range(len(u) + 1):
                    self.assertEqual(normal_least(u, v, d), normal(u, v, d))

    def test_normal_least_of_long_words(self):
        self.assertEqual(normal_least(LONG, LONG, 0), 0)
        self.assertEqual(normal_least(LONG, LONG[1:], 0), 1)
        self.assertEqual(normal_least(LONG, LONG[1:] + ("b",), 7), 7)
        self.assertEqual(normal_least(LONG[1:] + ("b",), LONG, 0), 4000)
        self.assertEqual(normal_least(("a", "b") * 2000, ("b", "a") * 2000, 0), 1)
        self.assertEqual(normal_least(("a", "b") * 2000, ("b",) + ("a", "b") * 1999, 4), 5)

    def test_normal_least_errors(self):
        long = LONG + ("a",)
        for u, v, d in ((["a"], (), 1), ((), None, 0), ((), (), 1), ((), (), -1), ((), (), True), (("a",), (), "b"),
                        (long, (), 0), ((), long, 0), (("A",), (), 0), (("a",), (), 2), (("a",), (), False)):
            self.assertEqual(raised(normal_least, u, v, d), ("NoForm", (u, v, d)))

    def test_is_queue_form(self):
        for u in words(3):
            for v in words(3):
                for d in range(len(u) + 1):
                    self.assertIs(is_queue_form((u, v, d)), normal(u, v, d) == d)
        self.assertIs(is_queue_form((LONG, LONG, 0)), True)
        for value in (*WRONG_FORMS, *ODD):
            self.assertIs(is_queue_form(value), False)


class Then(unittest.TestCase):
    def test_form_of_both_rows(self):
        for one in rows(QUEUE_STEPS, 3):
            for other in rows(QUEUE_STEPS, 2):
                self.assertEqual(queue_then(queue_form(one), queue_form(other)), queue_form(one + other))
                self.assertEqual(queue_then(queue_form(other), queue_form(one)), queue_form(other + one))

    def test_both_bracketings(self):
        forms = small_forms(2)[::3]
        for one in forms:
            for other in forms:
                both = queue_then(one, other)
                for third in forms:
                    self.assertEqual(queue_then(both, third), queue_then(one, queue_then(other, third)))

    def test_the_empty_row_changes_nothing(self):
        for form in small_forms():
            self.assertEqual(queue_then(form, ((), (), 0)), form)
            self.assertEqual(queue_then(((), (), 0), form), form)

    def test_4000_and_4001_letters(self):
        half = LONG[:2000]
        self.assertEqual(queue_then((half, half, 0), (half, half, 0)), (LONG, LONG, 0))
        self.assertEqual(queue_then((half, (), 2000), (half, (), 2000)), (LONG, (), 4000))
        self.assertEqual(raised(queue_then, ((), LONG, 0), ((), ("a",), 0)), TOO_MANY)
        self.assertEqual(raised(queue_then, (LONG, (), 4000), (("a",), (), 1)), TOO_MANY)

    def test_errors(self):
        for wrong in WRONG_FORMS:
            self.assertEqual(raised(queue_then, wrong, "other"), ("NoForm", wrong))
            self.assertEqual(raised(queue_then, ((), LONG, 0), wrong), ("NoForm", wrong))


class Works(unittest.TestCase):
    def test_shorts(self):
        self.assertEqual(queue_shorts((("a", "b"), ("b", "a"), 1)), [("a",)])
        self.assertEqual(queue_shorts((("a", "a"), ("a", "a"), 0)), [(), ("a",)])
        for form in small_forms(3):
            told = [word for word in words(len(form[0])) if queue_works(form, word) and len(word) < len(form[0])]
            self.assertEqual(queue_shorts(form), told)

    def test_4000_and_4001_letters(self):
        self.assertEqual(queue_left((("a",), ("b",), 1), LONG), LONG[1:] + ("b",))
        self.assertEqual(raised(queue_left, ((), ("b",), 0), LONG), TOO_MANY)
        self.assertIs(queue_works(((), ("b",), 0), LONG), True)
        self.assertIsNone(queue_left((("b",), ("b",) * 3, 1), LONG))
        self.assertEqual(queue_left((LONG, ("a",), 3999), LONG[1:]), ())

    def test_errors(self):
        for call in (queue_works, queue_left):
            for wrong in WRONG_FORMS:
                self.assertEqual(raised(call, wrong, None), ("NoForm", wrong))
            for wrong in WRONG_CONTENTS:
                self.assertEqual(raised(call, ((), (), 0), wrong), ("NoContents", wrong))
        for wrong in WRONG_FORMS:
            self.assertEqual(raised(queue_shorts, wrong), ("NoForm", wrong))
        for wrong in WRONG_ROWS:
            self.assertEqual(raised(queue_form, wrong), ("NoRow", wrong))


class Clashes(unittest.TestCase):
    def sources(self, row, length):
        """The source of each take, from a queue of tokens that takes from it whatever is in front."""
        held = [("box", index) for index in range(length)]
        takes = 0
        told = []
        for index, (verb, _) in enumerate(row):
            if verb == "put":
                held.append(("put", index))
                continue
            told.append((index, held[takes] if takes < len(held) else ("empty",)))
            takes += 1
        return told

    def test_sources_and_clashes_of_small_rows(self):
        for row in rows(QUEUE_STEPS, 4):
            for length in range(5):
                sources = self.sources(row, length)
                clashes = []
                for number, (index, source) in enumerate(sources):
                    self.assertEqual(queue_source(row, length, number), source)
                    if source[0] == "empty":
                        clashes.append(("empty", index))
                    elif source[0] == "put" and row[source[1]][1] != row[index][1]:
                        clashes.append(("unlike", source[1], index))
                self.check_clashes(row, length, clashes)

    def check_clashes(self, row, length, clashes):
        borne = any(left_by_row(QUEUE, row, word) is not None for word in words(length) if len(word) == length)
        self.assertIs(bears_length(row, length), borne)
        self.assertEqual(bears_length(row, length), not clashes)
        self.assertEqual(queue_clash(row, length), clashes[0] if clashes else None)
        for j in range(-1, len(row) + 1):
            self.assertIs(shows_queue_clash(row, length, ("empty", j)), ("empty", j) in clashes)
            for i in range(-1, len(row) + 1):
                self.assertIs(shows_queue_clash(row, length, ("unlike", i, j)), ("unlike", i, j) in clashes)

    def test_a_put_behind_the_take_is_not_its_source(self):
        row = (("take", "a"), ("put", "a"), ("take", "a"))
        self.assertEqual(queue_source(row, 0, 0), ("empty",))
        self.assertEqual(queue_source(row, 0, 1), ("empty",))
        self.assertEqual(queue_source(row, 1, 1), ("put", 1))
        self.assertEqual(queue_source(row, 4000, 1), ("box", 1))

    def test_any_value(self):
        row = (("put", "a"), ("take", "b"))
        self.assertIs(shows_queue_clash(row, 0, ("unlike", 0, 1)), True)
        for value in (*ODD, None, (), ("unlike", False, True), ("unlike", 0, True), ["unlike", 0, 1], ("unlike", 1),
                      ("unlike", 0.0, 1), (0, 1), ("empty", 1), ("unlike", 0, 1, 1), ("unlike",), (["unlike"], 0, 1)):
            self.assertIs(shows_queue_clash(row, 0, value), False)
        row = (("put", "a"), ("take", "a"), ("take", "a"))
        self.assertIs(shows_queue_clash((("take", "a"),) * 2, 1, ("empty", 1)), True)
        self.assertIs(shows_queue_clash((("take", "a"),) * 2, 1, ("empty", True)), False)
        self.assertIs(shows_queue_clash(row, 0, ("empty", 2)), True)

    def test_errors(self):
        for wrong in WRONG_ROWS:
            self.assertEqual(raised(bears_length, wrong, None), ("NoRow", wrong))
            self.assertEqual(raised(queue_clash, wrong, None), ("NoRow", wrong))
            self.assertEqual(raised(shows_queue_clash, wrong, None, None), ("NoRow", wrong))
            self.assertEqual(raised(queue_source, wrong, None, None), ("NoRow", wrong))
        row = (("take", "a"), ("put", "a"), ("take", "a"))
        for wrong in WRONG_LENGTHS:
            self.assertEqual(raised(bears_length, row, wrong), ("NoCount", wrong))
            self.assertEqual(raised(queue_clash, row, wrong), ("NoCount", wrong))
            self.assertEqual(raised(shows_queue_clash, row, wrong, None), ("NoCount", wrong))
            self.assertEqual(raised(queue_source, row, wrong, None), ("NoCount", wrong))
        for wrong in (None, True, False, -1, 2, 3, 1.0, "a", []):
            self.assertEqual(raised(queue_source, row, 1, wrong), ("NoCount", wrong))
        self.assertEqual(raised(queue_source, (("put", "a"),), 1, 0), ("NoCount", 0))
        self.assertIs(bears_length(row, 4000), True)


if __name__ == "__main__":
    unittest.main()
