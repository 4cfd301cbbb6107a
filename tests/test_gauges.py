"""Promise [9], and [0.2] (a) and (b) of gauges: forms by both modes, origins, stops, depths."""

import unittest
from itertools import product

from boxeffects.boxes import left_by_row
from boxeffects.gauges import (
    gauge_depth,
    gauge_form,
    gauge_left,
    gauge_origin,
    gauge_stops,
    gauge_then,
    gauge_works,
    is_gauge_form,
)
from small import ODD, gauge_steps, raised, rows

STOP = ("gauge", 9, "stop")
FAIL = ("gauge", 9, "fail")
WRONG_KINDS = (None, "gauge", ("gauge",), ("gauge", 9), ("gauge", 0, "stop"), ("gauge", 1000, "stop"), ["gauge", 9, "stop"],
               ("gauge", 9, "drop"), ("gauge", True, "stop"), ("stack",), ("ring", 9, "fail"), ("gauge", 9, "stop", 1))
WRONG_ROWS = (None, [("add", 1)], ("add", 1), (("add", 0),), (("add", 10),), (("add", True),), (("add", 1),) * 61,
              (("insert", 1),), (("add",),))
WRONG_CONTENTS = (None, True, False, -1, 10, 1.0, "a", (1,))
# None of these is a form by either mode.
WRONG_FORMS = ((), (0, 0), (0, 0, 9, 0), [0, 0, 9], (False, 0, 9), (0, False, 9), (0, 0, None), ("a", 0, 9), (-1, 0, 9),
               (0, 0, 10), (5, 0, 4), (0, 1, 9), (1.0, 0, 9), 0, "abc")
LONG_ROWS = tuple(
    tuple((("add", "sub")[k * k * at % 7 % 2], 1 + k * at % 997) for at in range(60)) for k in range(1, 6)
)


def kinds(capacities):
    return [("gauge", capacity, mode) for capacity in capacities for mode in ("stop", "fail")]


def form_by_steps(kind, row):
    """The form of a row, straight by what it leaves of each number."""
    _, capacity, mode = kind
    led = {number: left_by_row(kind, row, number) for number in range(capacity + 1)}
    led = {number: left for number, left in led.items() if left is not None}
    if not led:
        return None
    first, last = min(led), max(led)
    if mode == "fail":
        return first, led[first] - first, last
    if led[0] == led[capacity]:
        return led[0], 0, led[0]
    # Where it is not stopped, or just so, it moves by s.
    moved = [number for number in led if number + 1 in led and led[number + 1] != led[number]]
    return led[0], led[moved[0]] - moved[0], led[capacity]


class Forms(unittest.TestCase):
    def test_the_examples(self):
        row = (("add", 5), ("sub", 3))
        self.assertEqual(gauge_form(STOP, row), (2, 2, 6))
        self.assertEqual(gauge_form(FAIL, row), (0, 2, 4))
        self.assertEqual(gauge_origin(STOP, (2, 2, 6), 6), (4, 9))

    def test_forms_do_what_the_steps_do(self):
        for kind in kinds((1, 2)):
            for row in rows(gauge_steps(kind[1]), 5):
                self.check_row(kind, row)
        for kind in kinds((9,)):
            for row in rows(gauge_steps(9), 2) + rows((("add", 4), ("sub", 3), ("add", 9), ("sub", 1)), 4):
                self.check_row(kind, row)
        for kind in kinds((999,)):
            for row in LONG_ROWS:
                self.check_row(kind, row)
                self.check_row(kind, row[:3])

    def check_row(self, kind, row):
        form = gauge_form(kind, row)
        self.assertEqual(form, form_by_steps(kind, row), (kind, row))
        self.assertIs(is_gauge_form(kind, form), True)
        for number in range(0, kind[1] + 1, 1 + kind[1] // 50):
            left = left_by_row(kind, row, number)
            self.assertIs(gauge_works(kind, form, number), left is not None)
            self.assertEqual(gauge_left(kind, form, number), left)

    def test_just_the_forms_of_rows_of_three_steps(self):
        for kind in kinds((1, 2, 3, 4)):
            capacity = kind[1]
            made = set(gauge_form(kind, row) for row in rows(gauge_steps(capacity), 3))
            told = [form for form in product(range(-1, capacity + 2), range(-capacity - 1, capacity + 2),
                                             range(-1, capacity + 2)) if is_gauge_form(kind, form)]
            self.assertEqual(made - {None}, set(told))
            self.assertIs(None in made, kind[2] == "fail")

    def test_is_gauge_form(self):
        for form in ((0, 0, 9), (0, -9, 0), (3, 2, 5), (9, 0, 9), (0, 0, 0)):
            self.assertIs(is_gauge_form(STOP, form), form != (0, -9, 0), form)
        self.assertIs(is_gauge_form(FAIL, (9, -9, 9)), True)
        self.assertIs(is_gauge_form(FAIL, (9, 1, 9)), False)
        self.assertIs(is_gauge_form(FAIL, (1, -2, 9)), False)
        self.assertIs(is_gauge_form(STOP, (3, 4, 5)), False)
        self.assertIs(is_gauge_form(STOP, (3, -5, 5)), False)
        self.assertIs(is_gauge_form(STOP, (3, -4, 5)), True)
        self.assertIs(is_gauge_form(STOP, (3, 1, 3)), False)
        self.assertIs(is_gauge_form(STOP, None), False)
        self.assertIs(is_gauge_form(FAIL, None), True)
        for kind in (STOP, FAIL):
            for value in (*WRONG_FORMS, *ODD):
                self.assertIs(is_gauge_form(kind, value), False, value)

    def test_nowhere(self):
        form = gauge_form(FAIL, (("add", 5), ("add", 5)))
        self.assertIsNone(form)
        self.assertIsNone(gauge_form(FAIL, (("add", 5), ("add", 5), ("sub", 9), ("sub", 1))))
        self.assertIs(gauge_works(FAIL, None, 0), False)
        self.assertIsNone(gauge_left(FAIL, None, 0))
        self.assertIsNone(gauge_origin(FAIL, None, 0))


class Then(unittest.TestCase):
    def test_form_of_both_rows(self):
        for kind in kinds((1, 2, 3)):
            for one in rows(gauge_steps(kind[1]), 2):
                for other in rows(gauge_steps(kind[1]), 2):
                    both = gauge_then(kind, gauge_form(kind, one), gauge_form(kind, other))
                    self.assertEqual(both, gauge_form(kind, one + other))

    def test_both_bracketings(self):
        for kind in kinds((1, 2, 9)):
            forms = sorted(set(gauge_form(kind, row) for row in rows(gauge_steps(kind[1])[:5], 2)), key=repr)
            for one, other, third in product(forms, repeat=3):
                both = gauge_then(kind, one, other)
                self.assertEqual(gauge_then(kind, both, third), gauge_then(kind, one, gauge_then(kind, other, third)))

    def test_none_makes_none(self):
        self.assertIsNone(gauge_then(FAIL, None, (0, 0, 9)))
        self.assertIsNone(gauge_then(FAIL, (0, 0, 9), None))


class Numbers(unittest.TestCase):
    def test_origins(self):
        for kind in kinds((1, 2, 3, 4)):
            for form in set(gauge_form(kind, row) for row in rows(gauge_steps(kind[1]), 3)):
                for number in range(kind[1] + 1):
                    led = [at for at in range(kind[1] + 1) if gauge_left(kind, form, at) == number]
                    told = gauge_origin(kind, form, number)
                    self.assertEqual(told, (led[0], led[-1]) if led else None, (kind, form, number))
                    if led:
                        self.assertEqual(led, list(range(told[0], told[1] + 1)))

    def test_stops(self):
        for row in (*rows((("add", 1), ("sub", 1), ("add", 3), ("sub", 2)), 5), ):
            kind = ("gauge", 3, "stop")
            for number in range(4):
                stops = []
                now = number
                for index, (verb, amount) in enumerate(row):
                    left = left_by_row(kind, (row[index],), now)
                    if left - now != (amount if verb == "add" else -amount):
                        stops.append(index)
                    now = left
                self.assertEqual(gauge_stops(kind, row, number), stops)
        self.assertEqual(gauge_stops(STOP, (("add", 9), ("add", 1), ("sub", 9), ("sub", 1)), 1), [0, 1, 3])
        self.assertEqual(gauge_stops(STOP, (("add", 9), ("sub", 9)), 0), [])

    def test_depths(self):
        for row in rows((("add", 1), ("sub", 1), ("add", 3), ("sub", 2)), 5):
            sums = [sum(amount if verb == "add" else -amount for verb, amount in row[:many])
                    for many in range(len(row) + 1)]
            self.assertEqual(gauge_depth(FAIL, row), (min(sums), max(sums)))
            below, above = gauge_depth(FAIL, row)
            form = gauge_form(FAIL, row)
            self.assertEqual(form, (-below, sums[-1], 9 - above) if above - below <= 9 else None)
        self.assertEqual(gauge_depth(FAIL, (("add", 9),) * 60), (0, 540))


class Errors(unittest.TestCase):
    def test_no_kind_ahead_of_all(self):
        odd = object()
        for wrong in WRONG_KINDS:
            self.assertEqual(raised(gauge_form, wrong, odd), ("NoKind", wrong))
            self.assertEqual(raised(is_gauge_form, wrong, odd), ("NoKind", wrong))
            self.assertEqual(raised(gauge_depth, wrong, odd), ("NoKind", wrong))
            for call in (gauge_then, gauge_works, gauge_left, gauge_origin, gauge_stops):
                self.assertEqual(raised(call, wrong, odd, odd), ("NoKind", wrong))

    def test_no_kind_of_the_other_mode(self):
        self.assertEqual(raised(gauge_stops, FAIL, None, None), ("NoKind", FAIL))
        self.assertEqual(raised(gauge_depth, STOP, None), ("NoKind", STOP))

    def test_no_row(self):
        for wrong in WRONG_ROWS:
            self.assertEqual(raised(gauge_form, STOP, wrong), ("NoRow", wrong))
            self.assertEqual(raised(gauge_form, FAIL, wrong), ("NoRow", wrong))
            self.assertEqual(raised(gauge_stops, STOP, wrong, None), ("NoRow", wrong))
            self.assertEqual(raised(gauge_depth, FAIL, wrong), ("NoRow", wrong))

    def test_no_form_then_the_others(self):
        for kind, more in ((STOP, None), (FAIL, (5, 5, 5))):
            for wrong in (*WRONG_FORMS, more):
                for call in (gauge_then, gauge_works, gauge_left, gauge_origin):
                    self.assertEqual(raised(call, kind, wrong, "other"), ("NoForm", wrong))
                self.assertEqual(raised(gauge_then, kind, (0, 0, 9), wrong), ("NoForm", wrong))
            for wrong in WRONG_CONTENTS:
                self.assertEqual(raised(gauge_works, kind, (0, 0, 9), wrong), ("NoContents", wrong))
                self.assertEqual(raised(gauge_left, kind, (0, 0, 9), wrong), ("NoContents", wrong))
                self.assertEqual(raised(gauge_origin, kind, (0, 0, 9), wrong), ("NoNumber", wrong))
        for wrong in WRONG_CONTENTS:
            self.assertEqual(raised(gauge_stops, STOP, (), wrong), ("NoContents", wrong))
            self.assertEqual(raised(gauge_left, FAIL, None, wrong), ("NoContents", wrong))
            self.assertEqual(raised(gauge_origin, FAIL, None, wrong), ("NoNumber", wrong))


if __name__ == "__main__":
    unittest.main()
