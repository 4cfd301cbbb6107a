"""Promise [3], and [0.2] (a) and (b) of stacks: forms, partners, clashes."""

import unittest

from boxeffects.boxes import left_by_row
from boxeffects.stacks import (
    is_stack_form,
    shows_stack_clash,
    stack_clash,
    stack_form,
    stack_left,
    stack_partners,
    stack_then,
    stack_works,
)
from small import ODD, STACK_STEPS, TOO_MANY, raised, rows, words

STACK = ("stack",)
WRONG_ROWS = (None, [("push", "a")], ("push", "a"), (("put", "a"),), (("push", "a"),) * 61, (("push", True),))
WRONG_FORMS = ((), ((),), ((), (), ()), [(), ()], ([], ()), ((), ["a"]), (("a",), None), (("A",), ()), ((True,), ()),
               (("a",) * 4001, ()), ((), ("a",) * 4001), "ab", ("a", "b"), 0, False)
WRONG_CONTENTS = (None, ["a"], "a", ("a", 1), ("a",) * 4001)


class Forms(unittest.TestCase):
    def test_single_steps(self):
        self.assertEqual(stack_form((("push", "x"),)), ((), ("x",)))
        self.assertEqual(stack_form((("pop", "x"),)), (("x",), ()))
        self.assertEqual(stack_form(()), ((), ()))

    def test_rows(self):
        row = (("pop", "a"), ("push", "b"), ("pop", "b"), ("pop", "c"), ("push", "d"), ("push", "e"))
        self.assertEqual(stack_form(row), (("a", "c"), ("e", "d")))
        self.assertIsNone(stack_form((("push", "a"), ("pop", "b"))))
        self.assertIsNone(stack_form((("pop", "a"), ("push", "a"), ("push", "c"), ("pop", "b"), ("pop", "a"))))
        self.assertEqual(stack_form((("push", "a"),) * 60), ((), ("a",) * 60))

    def test_letters_that_are_called_as_steps(self):
        self.assertEqual(stack_form((("push", "pop"),)), ((), ("pop",)))
        self.assertEqual(stack_form((("pop", "push"),)), (("push",), ()))
        self.assertEqual(stack_clash((("push", "pop"), ("pop", "push"))), (0, 1))

    def test_forms_do_what_the_steps_do(self):
        for row in rows(STACK_STEPS, 4):
            form = stack_form(row)
            self.assertTrue(is_stack_form(form))
            for contents in words(4):
                left = left_by_row(STACK, row, contents)
                self.assertIs(stack_works(form, contents), left is not None)
                self.assertEqual(stack_left(form, contents), left)

    def test_alike_just_if_the_forms_are_equal(self):
        effects = {}
        contents = words(4)
        for row in rows(STACK_STEPS, 4):
            effect = tuple(left_by_row(STACK, row, word) for word in contents)
            self.assertEqual(effects.setdefault(effect, stack_form(row)), stack_form(row))
        self.assertEqual(len(set(effects.values())), len(effects))

    def test_each_small_pair_is_a_form(self):
        for u in words(3):
            for v in words(3):
                row = tuple([("pop", x) for x in u] + [("push", x) for x in reversed(v)])
                self.assertEqual(stack_form(row), (u, v))

    def test_is_stack_form(self):
        for form in (None, ((), ()), (("a",), ("zzzz", "b")), (("a",) * 4000, ("b",) * 4000)):
            self.assertIs(is_stack_form(form), True)
        for value in (*WRONG_FORMS, *ODD):
            self.assertIs(is_stack_form(value), False, value)


class Then(unittest.TestCase):
    def test_form_of_both_rows(self):
        for one in rows(STACK_STEPS, 2):
            for other in rows(STACK_STEPS, 3):
                self.assertEqual(stack_then(stack_form(one), stack_form(other)), stack_form(one + other))

    def test_both_bracketings(self):
        forms = [None] + [(u, v) for u in words(2) for v in words(1)]
        for one in forms:
            for other in forms:
                both = stack_then(one, other)
                for third in forms:
                    self.assertEqual(stack_then(both, third), stack_then(one, stack_then(other, third)))

    def test_longer_words(self):
        self.assertEqual(stack_then((("a",), ("b", "c", "d")), (("b",), ("e",))), (("a",), ("e", "c", "d")))
        self.assertEqual(stack_then((("a",), ("b",)), (("b", "c", "d"), ("e",))), (("a", "c", "d"), ("e",)))
        self.assertIsNone(stack_then((("a",), ("b", "c")), (("b", "d"), ())))
        self.assertIsNone(stack_then(None, ((), ())))
        self.assertIsNone(stack_then(((), ()), None))

    def test_4000_and_4001_letters(self):
        long = ("a",) * 4000
        self.assertEqual(stack_then(((), long), ((), ())), ((), long))
        self.assertEqual(stack_then(((), long[1:]), ((), ("a",))), ((), long))
        self.assertEqual(raised(stack_then, ((), long), ((), ("a",))), TOO_MANY)
        self.assertEqual(raised(stack_then, (long, ()), (("a",), ())), TOO_MANY)
        self.assertEqual(stack_then((long, long), (long, long)), (long, long))
        # What makes None has no word that is too long.
        self.assertIsNone(stack_then((long, ("a",)), (("b", "a"), long)))
        self.assertEqual(raised(stack_then, (long, long + ("a",)), None), ("NoForm", (long, long + ("a",))))

    def test_errors(self):
        for wrong in WRONG_FORMS:
            self.assertEqual(raised(stack_then, wrong, "other"), ("NoForm", wrong))
            self.assertEqual(raised(stack_then, None, wrong), ("NoForm", wrong))


class Left(unittest.TestCase):
    def test_nowhere(self):
        self.assertIs(stack_works(None, ()), False)
        self.assertIsNone(stack_left(None, ("a",)))

    def test_4000_and_4001_letters(self):
        long = ("a",) * 4000
        self.assertEqual(stack_left((("a",), ("b",)), long), ("b",) + long[1:])
        self.assertEqual(raised(stack_left, ((), ("b",)), long), TOO_MANY)
        self.assertIsNone(stack_left((("b",), ("b", "b", "b")), long))
        self.assertIs(stack_works(((), ("b",)), long), True)

    def test_errors(self):
        for call in (stack_works, stack_left):
            for wrong in WRONG_FORMS:
                self.assertEqual(raised(call, wrong, None), ("NoForm", wrong))
            for wrong in WRONG_CONTENTS:
                self.assertEqual(raised(call, ((), ()), wrong), ("NoContents", wrong))
                self.assertEqual(raised(call, None, wrong), ("NoContents", wrong))
        self.assertEqual(raised(stack_form, None), ("NoRow", None))


class Clashes(unittest.TestCase):
    def partner(self, row, index):
        """The partner of a step, straight by its definition."""
        if row[index][0] == "push":
            for end in range(index + 1, len(row)):
                verbs = [step[0] for step in row[index:end + 1]]
                if verbs.count("push") == verbs.count("pop"):
                    return end
            return None
        found = [push for push in range(index) if row[push][0] == "push" and self.partner(row, push) == index]
        return found[0] if found else None

    def test_partners_and_clashes_of_small_rows(self):
        for row in rows(STACK_STEPS, 4):
            partners = stack_partners(row)
            self.assertEqual(partners, tuple(self.partner(row, index) for index in range(len(row))))
            clashes = [
                (i, j) for j in range(len(row)) for i in range(j)
                if row[i][0] == "push" and partners[i] == j and row[i][1] != row[j][1]
            ]
            self.assertEqual(stack_clash(row), clashes[0] if clashes else None)
            self.assertEqual(stack_form(row) is None, bool(clashes))
            for i in range(-1, len(row) + 1):
                for j in range(-1, len(row) + 1):
                    self.assertIs(shows_stack_clash(row, (i, j)), (i, j) in clashes)

    def test_told_clash_has_the_least_pop(self):
        row = (("push", "a"), ("push", "b"), ("pop", "c"), ("pop", "d"))
        self.assertEqual(stack_partners(row), (3, 2, 1, 0))
        self.assertEqual(stack_clash(row), (1, 2))
        self.assertIs(shows_stack_clash(row, (0, 3)), True)
        self.assertIs(shows_stack_clash(row, (1, 2)), True)
        self.assertEqual(stack_partners((("pop", "a"), ("push", "b"))), (None, None))

    def test_any_value(self):
        row = (("push", "a"), ("pop", "b"))
        self.assertIs(shows_stack_clash(row, (0, 1)), True)
        for value in (*ODD, None, (False, True), (0, True), (False, 1), [0, 1], (0, 1, 1), (0,), (1, 0), (0.0, 1.0),
                      ("a", 1), (0, 10 ** 40), ((0, 1),), (object(), object())):
            self.assertIs(shows_stack_clash(row, value), False, value)

    def test_errors(self):
        for wrong in WRONG_ROWS:
            for call in (stack_form, stack_partners, stack_clash):
                self.assertEqual(raised(call, wrong), ("NoRow", wrong))
            self.assertEqual(raised(shows_stack_clash, wrong, None), ("NoRow", wrong))


if __name__ == "__main__":
    unittest.main()
