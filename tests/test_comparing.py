"""Promise [11], and [0.2] (c): less, led back, shortest rows."""

import unittest
from itertools import product

from boxeffects.boxes import left_by_row
from boxeffects.comparing import (
    are_comparable,
    back_of,
    has_back,
    is_less,
    is_shortest,
    shortest_row,
    shortest_steps,
)
from boxeffects.forms import empty_form, form_of, is_form, joined, left_by, works_on
from boxeffects.kinds import is_contents
from small import (
    ALL_KINDS,
    SOME_CONTENTS,
    TAPE_STEPS,
    TOO_MANY,
    WRONG_KINDS,
    forms_of_rows,
    gauge_steps,
    inserts,
    raised,
    rows,
    small_rows,
)

STACK, QUEUE, TAPE, HEAP, TABLE = ("stack",), ("queue",), ("tape",), ("heap",), ("table",)
STOP, FAIL = ("gauge", 9, "stop"), ("gauge", 9, "fail")
RING = ("ring", 2, "drop")
NEVER_NOWHERE = (QUEUE, HEAP, STOP)
WRONG_FORMS = (0, "ab", (), [(), ()], True, ((), (), (), ()), object())
# Ahead of, among and behind the numbers that short rows insert.
HEAPS = [(-2,) * low + (0,) * middle + (5,) * high for low, middle, high in product(range(3), repeat=3)]


def contents_for(kind):
    """Contents that part all forms of short rows that are not alike, whatever their sizes."""
    return HEAPS if kind == HEAP else SOME_CONTENTS[kind]


def told_forms(kind, most=2):
    """The forms of short rows of a kind, None too if it is one."""
    forms = forms_of_rows(kind, most)
    return forms + [None] * (is_form(kind, None) and None not in forms)


class Less(unittest.TestCase):
    def test_beside_the_plain_steps_on_many_contents(self):
        for kind in ALL_KINDS:
            forms = told_forms(kind)
            contents = contents_for(kind)
            effects = {form: [left_by(kind, form, part) for part in contents] for form in forms}
            for one, other in product(forms, repeat=2):
                less = all(left in (None, more) for left, more in zip(effects[one], effects[other]))
                more = all(left in (None, less) for left, less in zip(effects[other], effects[one]))
                self.assertIs(is_less(kind, one, other), less, (kind, one, other))
                self.assertIs(are_comparable(kind, one, other), less or more)

    def test_effects_are_those_of_the_steps(self):
        for kind in ALL_KINDS:
            for row in small_rows(kind, 2):
                form = form_of(kind, row)
                for contents in contents_for(kind)[::4]:
                    self.assertEqual(left_by(kind, form, contents), left_by_row(kind, row, contents))

    def test_none_and_itself(self):
        for kind in ALL_KINDS:
            for form in told_forms(kind):
                self.assertIs(is_less(kind, form, form), True)
                if is_form(kind, None):
                    self.assertIs(is_less(kind, None, form), True)
                    self.assertIs(is_less(kind, form, None), form is None)
                    self.assertIs(are_comparable(kind, form, None), True)

    def test_by_hand(self):
        self.assertIs(is_less(STACK, (("a", "b", "c"), ("d", "c")), (("a", "b"), ("d",))), True)
        self.assertIs(is_less(STACK, (("a", "b", "c"), ("d", "c")), (("a", "b", "c"), ("d", "c", "c"))), False)
        self.assertIs(is_less(STACK, (("a",), ()), ((), ("a",))), False)
        self.assertIs(is_less(STACK, (("a", "b"), ("c",)), (("a",), ())), False)
        self.assertIs(is_less(QUEUE, (("a",), ("a",), 1), (("a",), ("a",), 0)), True)
        self.assertIs(is_less(QUEUE, (("a",), ("a",), 0), (("a",), ("a",), 1)), False)
        self.assertIs(is_less(QUEUE, (("a",), ("b",), 1), (("a",), ("c",), 1)), False)
        self.assertIs(is_less(RING, (None, (1, ()), None), (None, (1, ()), (2, ()))), True)
        self.assertIs(is_less(RING, (None, (1, ()), (2, ())), (None, (1, ()), None)), False)
        self.assertIs(is_less(RING, (None, (1, ()), None), (None, (0, ("a",)), None)), False)
        # What is written as it was expected is not written.
        self.assertIs(is_less(TAPE, (1, ((0, "a"),), ()), (1, (), ((0, "a"),))), True)
        self.assertIs(is_less(TAPE, (1, ((0, "a"),), ()), (1, (), ((0, "b"),))), False)
        self.assertIs(is_less(TAPE, (1, ((0, "a"),), ()), (2, (), ((0, "a"),))), False)
        self.assertIs(is_less(TAPE, (0, ((0, "a"),), ((0, "b"), (1, "c"))), (0, (), ((0, "b"), (1, "c")))), True)
        self.assertIs(is_less(TAPE, (0, ((0, "a"),), ((0, "b"), (1, "c"))), (0, (), ((0, "b"),))), False)
        self.assertIs(is_less(TABLE, ((("n", None),), ()), ((), (("n", None),))), True)
        self.assertIs(is_less(TABLE, ((("n", "x"),), ()), ((), (("n", None),))), False)
        self.assertIs(is_less(TABLE, ((), (("n", None),)), ((), ())), False)
        self.assertIs(is_less(TABLE, ((("m", "x"), ("n", None)), ()), ((("n", None),), ())), True)
        self.assertIs(is_less(TABLE, ((("m", "x"),), ()), ((("n", None),), ())), False)
        self.assertIs(is_less(FAIL, (2, 1, 5), (2, 1, 8)), True)
        self.assertIs(is_less(FAIL, (1, 1, 5), (2, 1, 8)), False)
        self.assertIs(is_less(FAIL, (2, 1, 5), (2, 0, 8)), False)
        self.assertIs(is_less(STOP, (2, 1, 5), (1, 1, 6)), False)
        self.assertIs(are_comparable(FAIL, (2, 1, 8), (2, 1, 5)), True)
        self.assertIs(are_comparable(FAIL, (2, 1, 7), (3, 1, 8)), False)

    def test_long_forms(self):
        word = ("a",) * 4000
        self.assertIs(is_less(STACK, (word, word), ((), ())), True)
        self.assertIs(is_less(QUEUE, (word, word, 3999), (word, word, 3998)), True)
        pairs = tuple((place, "a") for place in range(4000))
        self.assertIs(is_less(TAPE, (0, pairs, ()), (0, (), pairs)), True)


class Back(unittest.TestCase):
    def test_leads_back_just_what_is_left(self):
        for kind in ALL_KINDS:
            for form in told_forms(kind):
                contents = contents_for(kind)
                left = {part: left_by(kind, form, part) for part in contents if works_on(kind, form, part)}
                if not has_back(kind, form):
                    self.assertEqual(raised(back_of, kind, form), ("NoForm", form))
                    continue
                back = back_of(kind, form)
                self.assertIs(is_form(kind, back), True)
                for part, behind in left.items():
                    if is_contents(kind, behind):
                        self.assertEqual(left_by(kind, back, behind), part)
                for part in contents:
                    # Just what is left is led back.
                    led = left_by(kind, back, part)
                    self.assertEqual(left_by(kind, form, led) if led is not None else None,
                                     part if led is not None else None)
                self.assertEqual(back_of(kind, back), form)

    def test_no_back_where_there_is_none(self):
        # No form at all leads back, tried among those of short rows.
        for kind in ALL_KINDS:
            contents = contents_for(kind)
            forms = told_forms(kind, 3)
            for form in told_forms(kind, 1):
                if kind[0] in ("queue", "heap") or kind[0] == "ring" or has_back(kind, form):
                    continue
                left = {part: left_by(kind, form, part) for part in contents}
                for back in forms:
                    led = {part: left_by(kind, back, part) for part in contents}
                    self.assertFalse(self.leads_back(left, led), (kind, form, back))

    def leads_back(self, left, led):
        there = {behind for behind in left.values() if behind is not None}
        if any(led.get(behind, part) != part for part, behind in left.items() if behind is not None):
            return False
        return all(part in there for part, behind in led.items() if behind is not None)

    def test_by_hand(self):
        self.assertEqual(back_of(STACK, (("a",), ("b", "c"))), (("b", "c"), ("a",)))
        self.assertEqual(back_of(TAPE, (2, ((0, "a"), (1, "c")), ((0, "b"),))),
                         (-2, ((-2, "b"), (-1, "c")), ((-2, "a"),)))
        self.assertIs(has_back(TAPE, (2, ((0, "a"),), ((1, "b"),))), False)
        self.assertEqual(back_of(TABLE, ((("m", None), ("n", "x")), (("m", "y"), ("n", None)))),
                         ((("m", "y"), ("n", None)), (("m", None), ("n", "x"))))
        self.assertIs(has_back(TABLE, ((), (("m", None),))), False)
        self.assertEqual(back_of(FAIL, (1, 3, 5)), (4, -3, 8))
        self.assertEqual(back_of(RING, ((0, ()), None, (2, ()))), ((0, ()), None, (2, ())))
        self.assertIs(has_back(RING, (None, (0, ("a",)), None)), False)
        self.assertIs(has_back(RING, (None, (0, ()), None)), False)
        self.assertIs(has_back(QUEUE, (("a",), ("a",), 1)), False)
        self.assertIs(has_back(HEAP, (0, ((None, -1, 0), (3, 0, 0)))), False)
        self.assertIs(has_back(STOP, (0, 0, 8)), False)
        for kind in ALL_KINDS:
            self.assertEqual(back_of(kind, empty_form(kind)), empty_form(kind))
            if is_form(kind, None):
                self.assertIs(has_back(kind, None), True)
                self.assertIsNone(back_of(kind, None))


class Shortest(unittest.TestCase):
    def check_all(self, kind, all_rows):
        """All rows up to a length, short ones ahead, beside the told shortest ones."""
        fewest = {}
        for row in all_rows:
            form = form_of(kind, row)
            many = fewest.setdefault(form, len(row))
            self.assertIs(is_shortest(kind, row), len(row) == many, (kind, row))
        for form, many in fewest.items():
            told = shortest_row(kind, form)
            self.assertIsInstance(told, tuple)
            self.assertEqual(form_of(kind, told), form)
            self.assertEqual((len(told), shortest_steps(kind, form)), (many, many), (kind, form))

    def test_beside_all_shorter_rows(self):
        for kind in ALL_KINDS:
            if kind[0] not in ("ring", "gauge"):
                self.check_all(kind, small_rows(kind, 4 if kind[0] != "table" else 3))
        self.check_all(TAPE, rows(TAPE_STEPS[:3] + TAPE_STEPS[4:5], 6))
        for capacity, mode in product((1, 2, 3, 4), ("stop", "fail")):
            self.check_all(("gauge", capacity, mode), rows(gauge_steps(capacity), 3))

    def test_all_forms_of_gauges_have_three_steps_at_most(self):
        for mode in ("stop", "fail"):
            kind = ("gauge", 999, mode)
            for form in ((3, 2, 997), (500, -100, 600), (0, 0, 998), (1, 0, 999), (999, 0, 999), (7, 0, 7), (100, 100, 800)):
                row = shortest_row(kind, form)
                self.assertEqual(form_of(kind, row), form)
                self.assertEqual(shortest_steps(kind, form), len(row))
                self.assertLessEqual(len(row), 3)

    def test_told_rows_by_hand(self):
        self.assertEqual(shortest_row(STACK, (("a", "b"), ("c", "d"))),
                         (("pop", "a"), ("pop", "b"), ("push", "d"), ("push", "c")))
        self.assertEqual(shortest_row(QUEUE, (("a", "b", "c"), ("b", "c", "d"), 1)),
                         (("take", "a"), ("put", "b"), ("take", "b"), ("put", "c"), ("take", "c"), ("put", "d")))
        self.assertEqual(shortest_row(HEAP, (1, ((None, -1, 0), (5, 0, 1)))), (("least",), ("insert", 5)))
        self.assertEqual(shortest_row(TABLE, ((("n", None),), (("m", "x"), ("n", "y")))),
                         (("absent", "n"), ("set", "m", "x"), ("set", "n", "y")))
        left, right = ("left",), ("right",)
        # First to the left, if that is not longer; the expect ahead of the write.
        self.assertEqual(shortest_row(TAPE, (0, ((-1, "a"), (1, "b")), ((-1, "c"), (0, "d")))),
                         (("write", "d"), left, ("expect", "a"), ("write", "c"), right, right, ("expect", "b"), left))
        self.assertEqual(shortest_row(TAPE, (-1, ((-1, "a"), (1, "b")), ())),
                         (right, ("expect", "b"), left, left, ("expect", "a")))
        self.assertEqual(shortest_row(TAPE, (1, ((-1, "a"),), ((2, "b"),))),
                         (left, ("expect", "a"), right, right, right, ("write", "b"), left))
        self.assertEqual(shortest_row(TAPE, (-3, (), ())), (left,) * 3)
        self.assertEqual(shortest_row(TAPE, (2, (), ((2, "a"),))), (right, right, ("write", "a")))

    def test_gauges_by_hand(self):
        told = {
            (STOP, (0, 0, 9)): (), (STOP, (0, 0, 0)): (("sub", 9),), (STOP, (9, 0, 9)): (("add", 9),),
            (STOP, (4, 0, 4)): (("add", 9), ("sub", 5)), (STOP, (2, 2, 6)): (("add", 5), ("sub", 3)),
            (STOP, (3, 1, 6)): (("sub", 2), ("add", 6), ("sub", 3)), (STOP, (1, 0, 9)): (("sub", 1), ("add", 1)),
            (FAIL, (2, 0, 7)): (("sub", 2), ("add", 4), ("sub", 2)), (FAIL, (2, -2, 9)): (("sub", 2),),
            (FAIL, (0, 1, 7)): (("add", 2), ("sub", 1)), (FAIL, None): (("add", 9), ("add", 1)),
            (FAIL, (3, 1, 8)): (("sub", 3), ("add", 4)), (FAIL, (9, 0, 9)): (("sub", 9), ("add", 9)),
            (FAIL, (3, -1, 9)): (("sub", 3), ("add", 2)), (FAIL, (3, -1, 8)): (("sub", 3), ("add", 4), ("sub", 2)),
        }
        for (kind, form), row in told.items():
            self.assertEqual(shortest_row(kind, form), row, (kind, form))
            self.assertEqual(form_of(kind, row), form)

    def test_nowhere(self):
        for kind, row in ((STACK, (("push", "a"), ("pop", "b"))), (TAPE, (("expect", "a"), ("expect", "b"))),
                          (TABLE, (("absent", "a"), ("expect", "a", "a"))),
                          (("gauge", 1, "fail"), (("add", 1), ("add", 1)))):
            self.assertEqual(shortest_row(kind, None), row)
            self.assertIsNone(form_of(kind, row))
            self.assertEqual(shortest_steps(kind, None), 2)
            self.assertIs(is_shortest(kind, row), True)

    def test_long_forms(self):
        word = tuple("abcd" * 500)
        self.assertEqual(shortest_row(STACK, (word, word)),
                         tuple(("pop", x) for x in word) + tuple(("push", x) for x in word[::-1]))
        told = shortest_row(QUEUE, (word, word, 1200))
        self.assertEqual(told[:1201], tuple(("take", x) for x in word[:1200]) + (("put", word[0]),))
        self.assertEqual((len(told), [x for verb, x in told if verb == "take"]), (4000, list(word)))
        pairs = tuple((place, "a") for place in range(1000))
        told = shortest_row(TAPE, (0, pairs, ()))
        self.assertEqual(len(told), 1000 + 2 * 999)
        self.assertEqual(told[:4], (("expect", "a"), ("right",), ("expect", "a"), ("right",)))
        self.assertEqual(shortest_row(TAPE, (4000, (), ())), (("right",),) * 4000)
        form = (2000, ((None, -2000, 0), (3, 0, 2000)))
        self.assertEqual(shortest_row(HEAP, form), (("least",),) * 2000 + inserts(*(3,) * 2000))

    def test_4000_and_4001_steps(self):
        word = ("a",) * 2000
        self.assertEqual(shortest_steps(STACK, (word, word + ("a",))), 4001)
        self.assertEqual(raised(shortest_row, STACK, (word, word + ("a",))), TOO_MANY)
        self.assertEqual(raised(shortest_row, QUEUE, (word + ("a",), word, 2001)), TOO_MANY)
        self.assertEqual(shortest_steps(QUEUE, (word * 2, word * 2, 0)), 8000)
        self.assertEqual(shortest_steps(TAPE, (10 ** 100, ((-5, "a"),), ())), 10 ** 100 + 11)
        self.assertEqual(raised(shortest_row, TAPE, (4001, (), ())), TOO_MANY)
        self.assertEqual(shortest_steps(HEAP, (10 ** 100, ((None, -10 ** 100, 0),))), 10 ** 100)
        self.assertEqual(raised(shortest_row, HEAP, (4001, ((None, -4001, 0),))), TOO_MANY)
        self.assertEqual(len(shortest_row(HEAP, (4000, ((None, -4000, 0),)))), 4000)
        names = ["".join(signs) for signs in product("abcdefghijklmno", repeat=3)]
        pairs = tuple((name, None) for name in names[:2001])
        self.assertEqual(len(shortest_row(TABLE, (pairs[:2000], tuple((name, "x") for name in names[:2000])))), 4000)
        self.assertEqual(raised(shortest_row, TABLE, (pairs[:2000], tuple((name, "x") for name in names[:2001]))), TOO_MANY)


class Errors(unittest.TestCase):
    def test_no_kind_ahead_of_all(self):
        odd = object()
        for wrong in WRONG_KINDS:
            for call in (has_back, back_of, shortest_row, shortest_steps, is_shortest):
                self.assertEqual(raised(call, wrong, odd), ("NoKind", wrong))
            for call in (is_less, are_comparable):
                self.assertEqual(raised(call, wrong, odd, odd), ("NoKind", wrong))
        for call in (shortest_row, shortest_steps, is_shortest):
            self.assertEqual(raised(call, RING, odd), ("NoKind", RING))

    def test_no_form(self):
        for kind in ALL_KINDS:
            good = empty_form(kind)
            for wrong in WRONG_FORMS + ((None,) if kind in NEVER_NOWHERE else ()):
                for call in (has_back, back_of, *((shortest_row, shortest_steps) if kind[0] != "ring" else ())):
                    self.assertEqual(raised(call, kind, wrong), ("NoForm", wrong))
                for call in (is_less, are_comparable):
                    self.assertEqual(raised(call, kind, wrong, "other"), ("NoForm", wrong))
                    self.assertEqual(raised(call, kind, good, wrong), ("NoForm", wrong))
                    if is_form(kind, None):
                        self.assertEqual(raised(call, kind, None, wrong), ("NoForm", wrong))

    def test_no_row(self):
        for kind in ALL_KINDS:
            if kind[0] != "ring":
                good = small_rows(kind, 1)[-1]
                for wrong in (None, list(good), good[0], good * 61, (good,), (("no",),), True):
                    self.assertEqual(raised(is_shortest, kind, wrong), ("NoRow", wrong))
                self.assertIsNone(raised(is_shortest, kind, good * 60))

    def test_less_goes_with_joining(self):
        for kind in ALL_KINDS:
            forms = told_forms(kind)
            pairs = [(one, other) for one, other in product(forms, repeat=2) if is_less(kind, one, other)]
            for one, other in pairs[::5]:
                for third in forms[::4]:
                    self.assertIs(is_less(kind, joined(kind, one, third), joined(kind, other, third)), True)
                    self.assertIs(is_less(kind, joined(kind, third, one), joined(kind, third, other)), True)


if __name__ == "__main__":
    unittest.main()
