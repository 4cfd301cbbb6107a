"""Promise [12], and [0.2] (d): powers, from where on they repeat, how long they last, what is left behind them."""

import unittest
from itertools import product

from boxeffects.forms import empty_form, form_of, is_form, joined, left_by
from boxeffects.kinds import is_contents, size_of, under_head
from boxeffects.powers import (
    is_power_nowhere,
    lasting,
    left_behind,
    letter_behind,
    power_of,
    repeats_at,
    size_behind,
    works_behind,
)
from small import ALL_KINDS, SOME_CONTENTS, TOO_MANY, WRONG_KINDS, forms_of_rows, raised

STACK, QUEUE, TAPE, HEAP, TABLE = ("stack",), ("queue",), ("tape",), ("heap",), ("table",)
STOP, FAIL = ("gauge", 9, "stop"), ("gauge", 9, "fail")
RING = ("ring", 3, "drop")
GREAT = 10 ** 30
MOST = 9
WRONG_FORMS = (0, "ab", (), [(), ()], True, ((), (), (), ()), object())
WRONG_COUNTS = (None, True, False, 0, -1, GREAT + 1, 1.0, "a", [1])

# Forms that short rows do not have: growing, asking, meeting themselves further on, rings of any lengths.
MORE_FORMS = {
    "stack": ((("a", "b"), ("a", "b", "b", "a")), (("a", "b", "a", "b"), ("a", "b")), (("a", "b"), ("a", "b")),
              (("a", "b"), ("b", "a", "b")), ((), ("a", "b")), (("a", "a", "b"), ())),
    "queue": ((("a", "b"), ("a", "b"), 0), (("a", "b", "a"), ("b", "a"), 1), (("a",), ("a", "a"), 1), (("a", "a"), ("a",), 1),
              (("a", "b"), ("b",), 2), (("a",), ("b",), 1), ((), ("a", "b"), 0), (("a", "b"), ("b", "a"), 1)),
    "tape": ((1, ((0, "a"), (1, "b")), ((0, "b"),)), (1, ((0, "a"),), ((1, "a"),)), (2, ((0, "a"),), ((4, "b"),)),
             (-1, ((0, "a"), (3, "b")), ((0, "b"), (2, "b"))), (2, ((0, "b"), (1, "a")), ((2, "b"), (3, "b"))),
             (-3, ((-3, "a"),), ((-4, "b"), (0, "a"))), (0, ((0, "a"),), ((0, "b"), (1, "a"))), (3, (), ((0, "a"), (3, "b"))),
             (1, ((0, "b"), (2, "b")), ((0, "a"), (2, "a"))), (1, ((2, "a"),), ((4, "b"),)),
             (-2, ((3, "a"),), ((-1, "b"),)), (0, ((0, "a"),), ((1, "b"),)), (1, ((0, "a"), (1, "a")), ())),
    "heap": ((3, ((None, -3, 0), (0, -1, 1), (2, 1, 2))), (1, ((None, -2, 0), (0, 1, 2))), (0, ((None, -2, 0), (1, 0, 0))),
             (2, ((None, -2, 0),))),
    "table": (((("m", "x"),), (("m", None),)), ((("m", "x"),), (("n", None),)), ((("m", None),), ())),
}


def any_forms(kind):
    """Forms of short rows, more ones, and None, if it is one."""
    forms = forms_of_rows(kind, 2) + [form for form in MORE_FORMS.get(kind[0], ()) if is_form(kind, form)]
    if kind[0] == "ring":
        items = [(None, (0, ()), (0, ("p",))), (None, (1, ()), (0, ("p", "q"))), (None, (2, ()), (1, ("q",)), (0, ()))]
        forms += [form for form in product(*items) if is_form(kind, form)]
        forms += [form for form in (((0, ("p",)), (0, ("q", "p")), (0, ("p", "p", "q")), (0, ())),
                                    ((0, ("p",)), (1, ("q",)), (1, ()), (2, ("p",)))) if is_form(kind, form)]
    return forms + [None] * (is_form(kind, None) and None not in forms)


def powers(kind, form):
    """The powers up to MOST, joined one by one; that to 1 stands at 1."""
    found = [None, form]
    while len(found) <= MOST:
        found.append(joined(kind, found[-1], form))
    return found


def contents_of(kind):
    found = list(SOME_CONTENTS[kind])
    if kind == STACK:
        found += [("a", "b") * 3, ("a",) * 6, ("a", "a", "b") * 2 + ("a",), ("a", "b", "a", "b", "a")]
    if kind == QUEUE:
        found += [("a", "b") * 4, ("a",) * 7, ("a", "b", "a") * 3, ("a", "b", "b")]
    if kind == TAPE:
        found = found[::3] + [(tuple((place, "a") for place in range(-9, 10)), "b"), (((7, "b"),), "a"),
                              (((-4, "b"), (5, "c")), "a")]
    if kind == HEAP:
        found = found[::4] + [(-2, -2, 0, 1, 3, 3, 3, 5), (1,) * 12]
    return found


class Powers(unittest.TestCase):
    def test_beside_joining_so_often(self):
        for kind in ALL_KINDS:
            for form in any_forms(kind):
                found = powers(kind, form)
                for n in range(1, MOST + 1):
                    self.assertEqual(power_of(kind, form, n), found[n], (kind, form, n))
                    self.assertIs(is_power_nowhere(kind, form, n), found[n] is None)

    def test_beside_joining_squares(self):
        # 2 ** 13 times, as far as none on the way is too long.
        for kind in ALL_KINDS:
            for form in any_forms(kind):
                if kind[0] in ("stack", "queue") or (kind[0] == "tape" and form and form[0]):
                    continue
                square = form
                for _ in range(13):
                    square = joined(kind, square, square)
                self.assertEqual(power_of(kind, form, 2 ** 13), square)
                self.assertIs(is_power_nowhere(kind, form, 2 ** 13), square is None)

    def test_the_examples(self):
        self.assertEqual(power_of(STACK, (("a",), ("a", "b")), 3), (("a",), ("a", "b", "b", "b")))
        self.assertEqual(repeats_at(STOP, (2, 2, 6)), (3, 1))

    def test_great_numbers_by_hand(self):
        told = (
            (STACK, ((), ()), ((), ())), (STACK, (("a", "b"), ("a", "b")), (("a", "b"), ("a", "b"))),
            (STACK, (("a",), ("b",)), None), (QUEUE, ((), (), 0), ((), (), 0)),
            (RING, form_of(RING, (("put", "a"),)), ((0, ("a",) * 3),) * 4), (RING, form_of(RING, (("take",),)), None),
            (("ring", 3, "ignore"), ((0, ("a",)), (1, ("a",)), (2, ("a",)), (3, ())),
             ((0, ("a",) * 3), (1, ("a",) * 2), (2, ("a",)), (3, ()))),
            (TAPE, (5, (), ()), (5 * GREAT, (), ())), (TAPE, (0, ((1, "a"),), ((2, "b"),)), (0, ((1, "a"),), ((2, "b"),))),
            (TAPE, (0, ((1, "a"),), ((1, "b"),)), None), (TAPE, (1, ((0, "a"),), ((1, "b"),)), None),
            (HEAP, (1, ((None, -1, 0), (5, 0, 1))), (1, ((None, -GREAT, 0), (5, 0, 1)))),
            (HEAP, (2, ((None, -2, 0), (5, -1, 1))), (GREAT + 1, ((None, -2 * GREAT, 0), (5, -GREAT, 1)))),
            (HEAP, (0, ((None, 0, 0), (5, 1, 1))), (0, ((None, 0, 0), (5, GREAT, GREAT)))),
            (STOP, (2, 2, 6), (6, 0, 6)), (STOP, (0, -1, 8), (0, 0, 0)), (STOP, (1, 0, 8), (1, 0, 8)), (FAIL, (0, 1, 8), None),
            (FAIL, (2, 0, 5), (2, 0, 5)), (TABLE, ((("m", "x"),), (("n", "y"),)), ((("m", "x"),), (("n", "y"),))),
            (TABLE, ((("m", "x"),), (("m", "y"),)), None),
        )
        for kind, form, power in told:
            self.assertEqual(power_of(kind, form, GREAT), power, (kind, form))
            self.assertIs(is_power_nowhere(kind, form, GREAT), power is None)

    def test_rings_that_go_round(self):
        # Four lengths that are led round, with letters that come to stand all over.
        form = ((0, ("a",)), (0, ("b", "c")), (1, ("d", "e")), (0, ()))
        self.assertEqual(repeats_at(RING, form), self.repeats(RING, form, 12))
        self.assertEqual(power_of(RING, form, GREAT), power_of(RING, form, 4 + GREAT % 4))
        # Lengths led round in three, four and five: twelve steps of capacity.
        kind = ("ring", 12, "fail")
        goals = [1, 2, 0, 4, 5, 6, 3, 8, 9, 10, 11, 7, 12]
        form = tuple((0, ("a",) * goal) for goal in goals)
        self.assertEqual(repeats_at(kind, form), (1, 60))
        self.assertEqual(power_of(kind, form, GREAT), power_of(kind, form, GREAT % 60))
        # 10 ** 30 leaves 1 when it is parted by 3, and nothing by 4 and by 5.
        self.assertEqual([size_behind(kind, form, GREAT, ("z",) * length) for length in (0, 3, 8, 12)], [1, 3, 8, 12])

    def repeats(self, kind, form, most):
        found = [form]
        while len(found) < 2 * most:
            found.append(joined(kind, found[-1], form))
        for i, p in product(range(1, most), range(1, most)):
            if found[i - 1] == found[i + p - 1]:
                return i, p
        return None

    def test_where_powers_repeat(self):
        for kind in ALL_KINDS:
            for form in any_forms(kind):
                told = repeats_at(kind, form)
                found = powers(kind, form)
                pairs = [(i, p) for i in range(1, MOST) for p in range(1, MOST + 1 - i) if found[i] == found[i + p]]
                self.assertEqual(told, pairs[0] if pairs else None, (kind, form))
                if kind[0] in ("ring", "gauge", "table"):
                    self.assertIsNotNone(told)

    def test_repeats_by_hand(self):
        for kind in ALL_KINDS:
            self.assertEqual(repeats_at(kind, empty_form(kind)), (1, 1))
            if is_form(kind, None):
                self.assertEqual(repeats_at(kind, None), (1, 1))
        self.assertIsNone(repeats_at(STACK, ((), ("a",))))
        self.assertEqual(repeats_at(STACK, (("a",), ("b",))), (2, 1))
        self.assertIsNone(repeats_at(QUEUE, (("a",), ("a",), 0)))
        self.assertIsNone(repeats_at(TAPE, (1, (), ())))
        self.assertIsNone(repeats_at(TAPE, (1, ((0, "a"),), ((5, "a"),))))
        self.assertEqual(repeats_at(TAPE, (1, ((0, "a"),), ((5, "b"),))), (6, 1))
        self.assertEqual(repeats_at(TAPE, (2, ((0, "a"),), ((5, "b"), (6, "b")))), (4, 1))
        self.assertEqual(repeats_at(TAPE, (1, ((2, "a"),), ((4, "b"),))), (3, 1))
        self.assertEqual(repeats_at(TAPE, (-1, ((2, "a"),), ((-1, "b"),))), (4, 1))
        self.assertEqual(repeats_at(TAPE, (-1, ((0, "a"),), ((-10 ** 20, "b"),))), (10 ** 20 + 1, 1))
        self.assertIsNone(repeats_at(TAPE, (-1, ((0, "a"),), ((5, "b"),))))
        self.assertIsNone(repeats_at(HEAP, (0, ((None, -1, 0), (3, 0, 0)))))
        self.assertEqual(repeats_at(("gauge", 999, "stop"), (1, 1, 999)), (999, 1))
        self.assertEqual(repeats_at(("gauge", 999, "fail"), (0, 1, 998)), (1000, 1))
        self.assertEqual(repeats_at(("gauge", 999, "fail"), (0, 2, 997)), (500, 1))

    def test_tapes_far_apart(self):
        far = 10 ** 20
        form = (1, ((0, "a"),), ((far, "b"),))
        self.assertIs(is_power_nowhere(TAPE, form, far), False)
        self.assertIs(is_power_nowhere(TAPE, form, far + 1), True)
        self.assertIsNone(power_of(TAPE, form, far + 1))
        self.assertEqual(raised(power_of, TAPE, form, far), TOO_MANY)
        self.assertEqual(lasting(TAPE, form, ((), "a")), far)
        self.assertEqual(lasting(TAPE, form, (((far - 7, "c"),), "a")), far - 7)
        self.assertEqual(lasting(TAPE, form, (((far, "c"),), "a")), far)
        self.assertEqual(lasting(TAPE, (1, ((0, "a"),), ((10 ** 40, "b"),)), ((), "a")), 10 ** 40)

    def test_4000_and_4001(self):
        self.assertEqual(power_of(STACK, ((), ("a",)), 4000), ((), ("a",) * 4000))
        self.assertEqual(power_of(STACK, (("a",), ()), 4000), (("a",) * 4000, ()))
        self.assertEqual(power_of(QUEUE, (("a",), ("a",), 0), 4000), (("a",) * 4000, ("a",) * 4000, 0))
        self.assertEqual(len(power_of(TAPE, (-1, ((0, "a"),), ()), 4000)[1]), 4000)
        self.assertEqual(len(power_of(TAPE, (1, (), ((0, "a"),)), 4000)[2]), 4000)
        long = (("stack",), ((), ("a",))), (STACK, (("a",), ())), (QUEUE, (("a",), (), 1)), (QUEUE, ((), ("a",), 0)), \
            (TAPE, (-1, ((0, "a"),), ())), (TAPE, (1, (), ((0, "a"),))), (TAPE, (1, ((0, "a"),), ((5, "a"),)))
        for kind, form in long:
            for n in (4001, GREAT):
                self.assertEqual(raised(power_of, kind, form, n), TOO_MANY)
                self.assertIs(is_power_nowhere(kind, form, n), False)
        # What is expected and what is written is counted one by one.
        form = power_of(TAPE, (2, ((0, "a"),), ((1, "b"),)), 4000)
        self.assertEqual((len(form[1]), len(form[2])), (4000, 4000))
        # A form that is nowhere is none that would be too long.
        self.assertIsNone(power_of(STACK, (("a",) * 4000, ("b",) * 4000), 2))
        # What is written as it was expected takes no room.
        form = (1, ((0, "a"), (1, "a")), ((0, "b"),))
        self.assertEqual(power_of(TAPE, form, 3), (3, ((0, "a"), (1, "a"), (2, "a"), (3, "a")), tuple(zip(range(3), "bbb"))))

    def test_long_forms_take_no_time(self):
        word = ("a", "b") * 1000
        self.assertEqual(power_of(QUEUE, (word, word, 0), 2)[2], 0)
        pairs = tuple((place, "ab"[place % 2]) for place in range(4000))
        self.assertIsNone(repeats_at(TAPE, (2, pairs, ())))
        self.assertEqual(raised(power_of, TAPE, (2, pairs, ()), 2), TOO_MANY)
        self.assertEqual(power_of(TAPE, (2, pairs[:3998], ()), 2), (4, pairs, ()))
        self.assertIs(works_behind(TAPE, (2, pairs, ()), GREAT, (tuple((2 * at, "a") for at in range(9)), "b")), False)
        self.assertEqual(letter_behind(TAPE, (2, (), pairs), GREAT, ((), "c"), -1), "b")


class Lasting(unittest.TestCase):
    def test_beside_the_steps_done_again_and_again(self):
        for kind in ALL_KINDS:
            for form, contents in product(any_forms(kind)[::2], contents_of(kind)[::2]):
                course = [contents]
                while len(course) <= MOST and course[-1] is not None:
                    course.append(left_by(kind, form, course[-1]))
                if course[-1] is None:
                    course.pop()
                self.check_course(kind, form, course)

    def check_course(self, kind, form, course):
        lasts = lasting(kind, form, course[0])
        if len(course) <= MOST:
            self.assertEqual(lasts, len(course) - 1, (kind, form, course))
        else:
            self.assertTrue(lasts is None or lasts >= MOST)
        for n in (1, 2, 3, 5, MOST):
            works = n < len(course)
            given = kind, form, n, course[0]
            self.assertIs(works_behind(*given), works)
            self.assertEqual(left_behind(*given), course[n] if works else None)
            self.check_size(given, course[n] if works else None)

    def check_size(self, given, left):
        kind, form, n = given[:3]
        if left is None:
            self.assertIsNone(size_behind(*given))
        elif kind == TAPE:
            self.assertEqual(size_behind(*given), n * form[0])
        else:
            self.assertEqual(size_behind(*given), size_of(kind, left))
        if kind == TAPE:
            for place in range(-12, 13, 3):
                self.assertEqual(letter_behind(*given, place), None if left is None else under_head(left, place))
        elif kind[0] in ("stack", "queue", "ring"):
            for place in range(12):
                if left is not None and place >= len(left):
                    self.assertEqual(raised(letter_behind, *given, place), ("NoPlace", place))
                else:
                    self.assertEqual(letter_behind(*given, place), None if left is None else left[place])

    def test_for_ever(self):
        for_ever = (
            (STACK, (("a",), ("a", "b")), ("a",)), (QUEUE, (("a",), ("a",), 1), ("a", "a")), (RING, empty_form(RING), ()),
            (QUEUE, ((), ("b",), 0), ()), (TAPE, (1, ((0, "a"),), ()), ((), "a")), (TAPE, (0, ((0, "a"),), ((1, "b"),)), ((), "a")),
            (HEAP, (1, ((None, -1, 0), (5, 0, 1))), (3,)), (STOP, (9, 0, 9), 4), (FAIL, (2, 0, 5), 5),
            (TABLE, ((("m", "x"),), (("n", "y"),)), (("m", "x"),)), (TAPE, (-2, ((0, "a"),), ()), (((1, "b"), (2, "b")), "a")),
        )
        for kind, form, contents in for_ever:
            self.assertIsNone(lasting(kind, form, contents))
            self.assertIs(works_behind(kind, form, GREAT, contents), True)

    def test_numbers_by_hand(self):
        full = ("a",) * 4000
        self.assertEqual(lasting(STACK, (("a",), ()), full), 4000)
        self.assertEqual(lasting(STACK, (("a", "a", "a"), ("a",)), full), 1999)
        self.assertEqual(lasting(STACK, (("a",), ("b",)), full), 1)
        self.assertEqual(lasting(QUEUE, (("a",), (), 1), full), 4000)
        self.assertEqual(lasting(HEAP, (2, ((None, -2, 0), (5, -1, 1))), (7,) * 4000), 3999)
        self.assertEqual(lasting(FAIL, (0, 2, 7), 0), 4)
        self.assertEqual(lasting(FAIL, (2, -2, 9), 9), 4)
        self.assertEqual(lasting(TAPE, (1, ((0, "a"),), ()), (tuple((at, "a") for at in range(4000)), "b")), 4000)
        # What lies where it writes, ahead of coming there to ask, does not count.
        self.assertIsNone(lasting(TAPE, (1, ((0, "a"),), ((5, "a"),)), (((5, "c"),), "a")))
        self.assertEqual(lasting(TAPE, (1, ((0, "a"),), ((5, "a"),)), (((4, "c"), (5, "c")), "a")), 4)
        self.assertIsNone(lasting(TAPE, (1, ((0, "a"),), ((2, "a"),)), (((0, "a"), (1, "a")), "b")))
        self.assertEqual(lasting(TAPE, (1, ((0, "a"),), ((2, "a"),)), (((0, "a"), (2, "a")), "b")), 1)
        self.assertEqual(lasting(TABLE, ((("m", None),), (("m", "x"),)), ()), 1)
        for kind in ALL_KINDS:
            if is_form(kind, None):
                self.assertEqual(lasting(kind, None, SOME_CONTENTS[kind][0]), 0)


class Behind(unittest.TestCase):
    def test_great_numbers(self):
        grow = (("a",), ("a", "b", "c"))
        self.assertEqual(size_behind(STACK, grow, GREAT, ("a", "z")), 2 + 2 * GREAT)
        told = [letter_behind(STACK, grow, GREAT, ("a", "z"), place)
                for place in (0, 1, 2, 3, 2 * GREAT - 1, 2 * GREAT, 2 * GREAT + 1)]
        self.assertEqual(told, ["a", "b", "c", "b", "b", "c", "z"])
        self.assertEqual(raised(letter_behind, STACK, grow, GREAT, ("a", "z"), 2 * GREAT + 2), ("NoPlace", 2 * GREAT + 2))
        self.assertEqual(raised(left_behind, STACK, grow, GREAT, ("a", "z")), TOO_MANY)
        self.assertEqual(left_behind(STACK, (("a",), ("a",)), GREAT, ("a", "z")), ("a", "z"))
        self.assertEqual(size_behind(QUEUE, (("a",), ("a", "a"), 1), GREAT, ("a",)), 1 + GREAT)
        self.assertEqual(letter_behind(QUEUE, ((), ("b", "c"), 0), GREAT, ("a",), 2 * GREAT), "c")
        turned = (("a", "b"), ("b", "a"), 1)
        self.assertEqual(left_behind(QUEUE, turned, GREAT, ("a", "b", "a")), ("a", "b", "a"))
        form = form_of(RING, (("take",), ("put", "a")))
        self.assertEqual(left_behind(RING, form, GREAT, ("x", "y")), ("a", "a"))
        self.assertEqual(letter_behind(RING, form, GREAT, ("x", "y"), 1), "a")
        self.assertEqual(left_behind(HEAP, (1, ((None, -1, 0), (5, 0, 1))), GREAT, (1, 2, 6, 7)), (5, 5, 6, 7))
        self.assertEqual(size_behind(HEAP, (0, ((None, 0, 0), (5, 2, 2))), GREAT, (1,)), 1 + 2 * GREAT)
        self.assertEqual(raised(left_behind, HEAP, (0, ((None, 0, 0), (5, 2, 2))), GREAT, (1,)), TOO_MANY)
        self.assertEqual(left_behind(STOP, (2, 2, 6), GREAT, 0), 6)
        self.assertEqual(size_behind(STOP, (0, -1, 8), GREAT, 9), 0)
        self.assertEqual(left_behind(FAIL, (2, 0, 5), GREAT, 4), 4)
        self.assertEqual(left_behind(TABLE, ((), (("m", None), ("n", "x"))), GREAT, (("m", "y"), ("o", "z"))),
                         (("n", "x"), ("o", "z")))
        self.assertEqual(size_behind(TABLE, ((), (("m", None), ("n", "x"))), GREAT, (("m", "y"), ("o", "z"))), 2)

    def test_great_numbers_on_tapes(self):
        right = (1, (), ((0, "a"),))
        self.assertEqual(size_behind(TAPE, right, GREAT, ((), "b")), GREAT)
        self.assertEqual(size_behind(TAPE, (-3, (), ()), GREAT, ((), "b")), -3 * GREAT)
        told = [letter_behind(TAPE, right, GREAT, (((-1, "c"), (5, "c")), "b"), place)
                for place in (0, -1, -GREAT + 5, -GREAT, -GREAT - 1, -GREAT - 2, 5, 5 - GREAT)]
        self.assertEqual(told, ["b", "a", "a", "a", "c", "b", "b", "a"])
        self.assertEqual(raised(left_behind, TAPE, right, GREAT, ((), "b")), TOO_MANY)
        # Where the rest is written there is no pair.
        self.assertEqual(left_behind(TAPE, right, GREAT, (((-1, "c"), (5, "c"), (GREAT, "d")), "a")),
                         (((-GREAT - 1, "c"), (0, "d")), "a"))
        trail = (-1, (), ((0, "a"), (2, "b"), (3, "a")))
        self.assertEqual(left_behind(TAPE, trail, GREAT, (((0, "b"), (4, "b")), "a")), (((3, "b"), (GREAT + 4, "b")), "a"))
        self.assertEqual(left_behind(TAPE, (2, ((0, "a"),), ()), GREAT, (((1, "b"), (3, "c")), "a")),
                         (((1 - 2 * GREAT, "b"), (3 - 2 * GREAT, "c")), "a"))

    def test_4000_and_4001(self):
        full = ("a",) * 3999
        self.assertEqual(left_behind(STACK, ((), ("b",)), 1, full), ("b",) + full)
        for kind, form, contents in ((STACK, ((), ("b",)), full), (QUEUE, ((), ("b",), 0), full),
                                     (HEAP, (0, ((None, 0, 0), (5, 1, 1))), (1,) * 3999)):
            self.assertEqual(len(left_behind(kind, form, 1, contents)), 4000)
            self.assertEqual(raised(left_behind, kind, form, 2, contents), TOO_MANY)
            self.assertEqual(size_behind(kind, form, 2, contents), 4001)
        pairs = tuple((place, "c") for place in range(-3999, 0))
        right = (1, (), ((0, "a"),))
        self.assertEqual(len(left_behind(TAPE, right, 1, (pairs, "b"))[0]), 4000)
        self.assertEqual(raised(left_behind, TAPE, right, 2, (pairs, "b")), TOO_MANY)
        self.assertEqual(len(left_behind(TAPE, (-1, (), ((0, "a"),)), 4000, (pairs, "b"))[0]), 4000)
        self.assertEqual(len(left_behind(TAPE, (-1, (), ((0, "a"),)), 4000, ((), "b"))[0]), 4000)
        names = ["".join(signs) for signs in product("abcdefghijklmnop", repeat=3)][:4001]
        table = tuple((name, "x") for name in names[:4000])
        form = ((), ((names[4000], "x"),))
        self.assertEqual(raised(left_behind, TABLE, form, 5, table), TOO_MANY)
        self.assertEqual(size_behind(TABLE, form, 5, table), 4001)
        self.assertEqual(len(left_behind(TABLE, form, 5, table[1:])), 4000)

    def test_where_it_does_not_work(self):
        for kind, form, contents in ((STACK, (("a",), ()), ("a",) * 4), (STACK, None, ()), (FAIL, (0, 1, 8), 9), (FAIL, None, 0),
                                     (TAPE, (1, ((0, "a"),), ()), (((3, "b"),), "a")), (HEAP, (1, ((None, -1, 0),)), (3,) * 4),
                                     (TABLE, ((("m", "x"),), (("m", "y"),)), (("m", "x"),)), (RING, None, ())):
            self.assertIs(works_behind(kind, form, 5, contents), False)
            for call in (size_behind, left_behind):
                self.assertIsNone(call(kind, form, 5, contents))
            if kind in (STACK, TAPE, RING):
                self.assertIsNone(letter_behind(kind, form, 5, contents, 10 ** 9))
        # Also where what would be left is too long.
        self.assertIsNone(left_behind(STACK, (("b",), ("b",) * 9), 4000, ("a",)))


class Errors(unittest.TestCase):
    def test_no_kind_ahead_of_all(self):
        odd = object()
        for wrong in WRONG_KINDS:
            self.assertEqual(raised(repeats_at, wrong, odd), ("NoKind", wrong))
            for call in (power_of, is_power_nowhere, lasting):
                self.assertEqual(raised(call, wrong, odd, odd), ("NoKind", wrong))
            for call in (works_behind, size_behind, left_behind):
                self.assertEqual(raised(call, wrong, odd, odd, odd), ("NoKind", wrong))
            self.assertEqual(raised(letter_behind, wrong, odd, odd, odd, odd), ("NoKind", wrong))
        for kind in (HEAP, STOP, FAIL, TABLE):
            self.assertEqual(raised(letter_behind, kind, odd, odd, odd, odd), ("NoKind", kind))

    def test_the_others_in_their_order(self):
        for kind in ALL_KINDS:
            good = empty_form(kind)
            contents = SOME_CONTENTS[kind][0]
            for wrong in WRONG_FORMS + (() if is_form(kind, None) else (None,)):
                self.assertEqual(raised(repeats_at, kind, wrong), ("NoForm", wrong))
                for call in (power_of, is_power_nowhere, lasting):
                    self.assertEqual(raised(call, kind, wrong, None), ("NoForm", wrong))
                for call in (works_behind, size_behind, left_behind):
                    self.assertEqual(raised(call, kind, wrong, 0, "none"), ("NoForm", wrong))
            for wrong in WRONG_COUNTS:
                for call in (power_of, is_power_nowhere):
                    self.assertEqual(raised(call, kind, good, wrong), ("NoCount", wrong))
                for call in (works_behind, size_behind, left_behind):
                    self.assertEqual(raised(call, kind, good, wrong, "none"), ("NoCount", wrong))
            for wrong in ("none", None, -1, True, [contents]):
                self.assertIs(is_contents(kind, wrong), False)
                self.assertEqual(raised(lasting, kind, good, wrong), ("NoContents", wrong))
                for call in (works_behind, size_behind, left_behind):
                    self.assertEqual(raised(call, kind, good, 1, wrong), ("NoContents", wrong))

    def test_letters_at_places(self):
        for kind in (STACK, QUEUE, RING, TAPE):
            good = empty_form(kind)
            contents = ((), "a") if kind == TAPE else ("a",)
            self.assertEqual(raised(letter_behind, kind, 5, 0, "none", None), ("NoForm", 5))
            self.assertEqual(raised(letter_behind, kind, good, 0, "none", None), ("NoCount", 0))
            self.assertEqual(raised(letter_behind, kind, good, 1, "none", None), ("NoContents", "none"))
            for wrong in (None, True, False, 1.0, "a", [0]):
                self.assertEqual(raised(letter_behind, kind, good, 1, contents, wrong), ("NoPlace", wrong))
            self.assertEqual(letter_behind(kind, good, GREAT, contents, 0), "a")
            if kind != TAPE:
                for wrong in (-1, 1, GREAT):
                    self.assertEqual(raised(letter_behind, kind, good, 1, contents, wrong), ("NoPlace", wrong))
        self.assertEqual(letter_behind(TAPE, (0, (), ()), 1, (((-7, "b"),), "a"), -7), "b")
        # A wrong place ahead of what does not work, a place that does not stand behind it.
        self.assertEqual(raised(letter_behind, STACK, (("b",), ()), 1, ("a",), -1), ("NoPlace", -1))
        self.assertIsNone(letter_behind(STACK, (("b",), ()), 1, ("a",), 5))
        self.assertEqual(raised(letter_behind, TAPE, (0, ((0, "b"),), ()), 1, ((), "a"), None), ("NoPlace", None))
        self.assertIsNone(letter_behind(TAPE, (0, ((0, "b"),), ()), 1, ((), "a"), -5))


if __name__ == "__main__":
    unittest.main()
