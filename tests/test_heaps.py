"""Promise [8], and [0.2] (a) and (b) of heaps: forms, what is left and taken, told rows, least roads."""

import unittest
from collections import Counter
from itertools import combinations_with_replacement, product

from boxeffects.boxes import left_by_row
from boxeffects.heaps import (
    count_behind,
    heap_form,
    heap_left,
    heap_then,
    heap_works,
    is_heap_form,
    least_road,
    left_kth,
    left_many,
    risked_numbers,
    sure_numbers,
    taken_by,
    told_heap_row,
)
from small import HEAP_STEPS, LEAST, ODD, TOO_MANY, inserts, raised, rows

HEAP = ("heap",)
EMPTY = (0, ((None, 0, 0),))
FORM = (1, ((None, -1, 0), (5, 0, 1)))
SMALL_ROWS = rows(HEAP_STEPS, 4)
SMALL_HEAPS = [heap for many in range(5) for heap in combinations_with_replacement((-2, -1, 0, 1, 2, 3), many)]
WRONG_ROWS = (None, [LEAST], LEAST, (("insert", 1000),), (("insert", -1000),), (("insert", True),), (LEAST,) * 61,
              (("insert",),), (("least", 1),))
# Each of these breaks one condition of a form.
WRONG_FORMS = (
    None, (), (0,), (0, ((None, 0, 0),), 0), [0, ((None, 0, 0),)], (0, [(None, 0, 0)]), (0, ([None, 0, 0],)), (0, ()),
    (False, ((None, 0, 0),)), (None, ((None, 0, 0),)), (0, ((None, False, 0),)), (0, ((None, 0, False),)),
    (0, ((None, 0),)), (0, ((None, 0, 0, 0),)), (0, ((0, 0, 0),)), (-1, ((None, 1, 0),)), (0, ((None, 1, 1),)),
    (1, ((None, 0, 1),)), (1, ((None, 0, 0),)), (0, ((None, -1, 0),)), (2, ((None, -1, 0),)),
    (0, ((None, 0, 0), (1000, 1, 1))), (0, ((None, 0, 0), (-1000, 1, 1))), (0, ((None, 0, 0), (None, 1, 1))),
    (0, ((None, 0, 0), (True, 1, 1))), (0, ((None, 0, 0), (1.0, 1, 1))), (0, ((None, 0, 0), ("a", 1, 1))),
    (0, ((None, 0, 0), (3, 1, 1), (3, 2, 2))), (0, ((None, 0, 0), (3, 1, 1), (2, 2, 2))),
    (1, ((None, -1, 0), (3, -1, 0))), (2, ((None, -1, 0), (3, -2, 0))), (0, ((None, -1, 0), (3, 0, 2))),
    (2, ((None, -1, 0), (3, 0, 2))), (0, ((None, -2, 0), (3, -1, 1), (4, 0, 0))), (-1, ((None, 0, 0), (3, 1, 0))),
    (0, ((None, 0, 0), (3, 1, 0))), (0, ((None, -1, 0), (3, 0, 0), (4, 2, 2), (3, 3, 3))),
)
WRONG_CONTENTS = (None, [1], (2, 1), (1001,), (-1001,), (True,), (1.0,), 5, (0,) * 4001)


def level(form, number, many):
    """What n(t) becomes at a number t, straight by the form's definition."""
    k, s, b = [corner for corner in form[1] if corner[0] is None or corner[0] <= number][-1]
    return max(many + s, b)


class Forms(unittest.TestCase):
    def test_by_hand(self):
        self.assertEqual(heap_form(()), EMPTY)
        self.assertEqual(heap_form((("insert", 7),)), (0, ((None, 0, 0), (7, 1, 1))))
        self.assertEqual(heap_form((LEAST,)), (1, ((None, -1, 0),)))
        self.assertEqual(heap_form((LEAST, ("insert", 5))), FORM)
        self.assertEqual(heap_left(FORM, (1, 7)), (5, 7))
        self.assertEqual(heap_form((("insert", 5), LEAST)), (0, ((None, -1, 0), (5, 0, 0))))

    def test_forms_do_what_the_steps_do(self):
        for row in SMALL_ROWS:
            form = heap_form(row)
            self.assertIs(is_heap_form(form), True)
            for contents in SMALL_HEAPS:
                left = left_by_row(HEAP, row, contents)
                self.assertIs(heap_works(form, contents), left is not None)
                self.assertEqual(heap_left(form, contents), left)
                self.assertEqual(left_many(form, contents), None if left is None else len(left))

    def test_alike_just_if_the_forms_are_equal(self):
        effects = {}
        for row in SMALL_ROWS:
            effect = tuple(left_by_row(HEAP, row, heap) for heap in SMALL_HEAPS)
            self.assertEqual(effects.setdefault(effect, heap_form(row)), heap_form(row))
        self.assertEqual(len(set(effects.values())), len(effects))

    def test_long_rows_at_the_greatest_numbers(self):
        row = (("insert", 999), LEAST, ("insert", -999)) * 20
        form = heap_form(row)
        self.assertEqual([corner[0] for corner in form[1]], [None, -999, 999])
        for contents in ((), (-1000,) * 3, (1000,) * 30, (-1000, -999, -999, 0, 999, 1000)):
            self.assertEqual(heap_left(form, contents), left_by_row(HEAP, row, contents))

    def test_each_small_right_form_is_that_of_a_row(self):
        values = [(d, ((None, s, 0),) + rest) for d in range(-1, 4) for s in range(-3, 2) for rest in self.rests()]
        for value in values:
            fits = [row for row in self.rows_like(value) if heap_form(row) == value]
            self.assertIs(is_heap_form(value), bool(fits), value)

    def rests(self):
        corners = [(k, s, b) for k in (0, 1) for s in range(-2, 2) for b in range(-1, 3)]
        return [()] + [(corner,) for corner in corners] + list(product(corners, repeat=2))[::3]

    def rows_like(self, value):
        """All rows with as many leasts and inserts as s tells, where it tells them."""
        sums = [corner[1] for corner in value[1]]
        if sums[0] > 0 or any(low > high for low, high in zip(sums, sums[1:])):
            return []
        numbers = [corner[0] for corner, ahead in zip(value[1][1:], sums) for _ in range(corner[1] - ahead)]
        leasts = -sums[0]
        found = set()
        for cut in range(len(numbers) + 1):
            for early in set(combinations_of(numbers, cut)):
                late = Counter(numbers) - Counter(early)
                found.add(inserts(*early) + (LEAST,) * leasts + inserts(*sorted(late.elements())))
        return found

    def test_is_heap_form(self):
        for form in (EMPTY, FORM, (0, ((None, 0, 0), (-999, 1, 1), (999, 2, 2))), (10 ** 100, ((None, -10 ** 100, 0),)),
                     (0, ((None, -2, 0), (3, -1, 0), (4, 1, 1))), (0, ((None, -1, 0), (3, 0, 0)))):
            self.assertIs(is_heap_form(form), True, form)
        for value in (*WRONG_FORMS, *ODD):
            self.assertIs(is_heap_form(value), False, value)

    def test_many_corners(self):
        form = (0, ((None, 0, 0),) + tuple((k, k + 1000, k + 1000) for k in range(-999, 1000)))
        self.assertIs(is_heap_form(form), True)
        self.assertEqual(heap_left(form, (-1000,)), (-1000,) + tuple(range(-999, 1000)))
        self.assertEqual(len(heap_then(form, form)[1]), 2000)


def combinations_of(numbers, many):
    """All choices of so many of these numbers, rising."""
    return [choice for choice in combinations_with_replacement(sorted(set(numbers)), many)
            if not Counter(choice) - Counter(numbers)]


class Then(unittest.TestCase):
    def test_form_of_both_rows(self):
        for one in rows(HEAP_STEPS, 3):
            for other in rows(HEAP_STEPS, 3):
                self.assertEqual(heap_then(heap_form(one), heap_form(other)), heap_form(one + other))

    def test_both_bracketings(self):
        forms = sorted(set(heap_form(row) for row in rows(HEAP_STEPS, 3)), key=repr)[::2]
        for one, other, third in product(forms, repeat=3):
            both = heap_then(one, other)
            self.assertEqual(heap_then(both, third), heap_then(one, heap_then(other, third)))

    def test_great_forms(self):
        great = (10 ** 100, ((None, -10 ** 100, 0),))
        self.assertEqual(heap_then(great, great), (2 * 10 ** 100, ((None, -2 * 10 ** 100, 0),)))

    def test_errors(self):
        for wrong in WRONG_FORMS:
            self.assertEqual(raised(heap_then, wrong, "other"), ("NoForm", wrong))
            self.assertEqual(raised(heap_then, EMPTY, wrong), ("NoForm", wrong))
        for wrong in WRONG_ROWS:
            self.assertEqual(raised(heap_form, wrong), ("NoRow", wrong))


class LeftAndTaken(unittest.TestCase):
    def test_taken_are_all_others(self):
        for row in SMALL_ROWS:
            form = heap_form(row)
            put = Counter(step[1] for step in row if step[0] == "insert")
            for contents in SMALL_HEAPS[::3]:
                left = left_by_row(HEAP, row, contents)
                taken = None
                if left is not None:
                    taken = tuple(sorted((Counter(contents) + put - Counter(left)).elements()))
                    self.assertEqual(len(taken), row.count(LEAST))
                self.assertEqual(taken_by(form, contents), taken)

    def test_number_at_a_place(self):
        for row in SMALL_ROWS:
            for contents in SMALL_HEAPS[::7]:
                left = left_by_row(HEAP, row, contents) or ()
                told = [left_kth(heap_form(row), contents, place) for place in range(9)]
                self.assertEqual(told, list(left) + [None] * (9 - len(left)))

    def test_how_many_behind(self):
        for row in SMALL_ROWS[::5]:
            form = heap_form(row)
            for t in (-1000, -2, -1, 0, 1, 2, 1000):
                for many in range(5):
                    self.assertEqual(count_behind(form, t, many), level(form, t, many))
        self.assertEqual(count_behind(FORM, 4, 0), 0)
        self.assertEqual(count_behind(FORM, 5, 0), 1)
        # Whether or not there can be contents with so few numbers.
        self.assertEqual(count_behind((3, ((None, -3, 0),)), 1000, 0), 0)
        self.assertEqual(count_behind(FORM, 1000, 10 ** 100), 10 ** 100)

    def test_contents_of_4000(self):
        contents = tuple(sorted(number % 2001 - 1000 for number in range(4000)))
        row = (LEAST, ("insert", 5), LEAST)
        self.assertEqual(heap_left(heap_form(row), contents), left_by_row(HEAP, row, contents))
        more = heap_form((("insert", 5),))
        self.assertEqual(raised(heap_left, more, contents), TOO_MANY)
        self.assertEqual(len(heap_left(more, contents[1:])), 4000)
        self.assertEqual(left_many(more, contents), 4001)
        self.assertEqual(left_kth(more, contents, 4000), 1000)
        self.assertIsNone(left_kth(more, contents, 4001))
        self.assertEqual(taken_by((4000, ((None, -4000, 0),)), contents), contents)
        self.assertIsNone(heap_left((4001, ((None, -4001, 0), (3, 9 ** 9, 9 ** 9 + 4001))), contents))

    def test_forms_that_leave_more(self):
        great = (0, ((None, 0, 0), (3, 10 ** 30, 10 ** 30)))
        self.assertEqual(raised(heap_left, great, (1, 8)), TOO_MANY)
        self.assertEqual(left_many(great, (1, 8)), 10 ** 30 + 2)
        self.assertEqual([left_kth(great, (1, 8), place) for place in (0, 1, 10 ** 30, 10 ** 30 + 1, 10 ** 30 + 2)],
                         [1, 3, 3, 8, None])
        self.assertEqual(taken_by(great, (1, 8)), ())
        taking = (0, ((None, -4001, 0), (3, 0, 0)))
        self.assertEqual(raised(taken_by, taking, ()), TOO_MANY)
        self.assertEqual(heap_left(taking, (1, 8)), (3, 8))
        self.assertEqual(taken_by((0, ((None, -4000, 0), (3, 0, 0))), ()), (3,) * 4000)
        # Where it does not work nothing is told that could be too much.
        self.assertIsNone(taken_by((4001, ((None, -4001, 0),)), ()))

    def test_errors(self):
        for call in (heap_works, heap_left, left_many, taken_by):
            for wrong in WRONG_FORMS:
                self.assertEqual(raised(call, wrong, None), ("NoForm", wrong))
            for wrong in WRONG_CONTENTS:
                self.assertEqual(raised(call, EMPTY, wrong), ("NoContents", wrong))
        for wrong in WRONG_FORMS:
            self.assertEqual(raised(left_kth, wrong, None, None), ("NoForm", wrong))
            self.assertEqual(raised(count_behind, wrong, None, None), ("NoForm", wrong))
        for wrong in WRONG_CONTENTS:
            self.assertEqual(raised(left_kth, EMPTY, wrong, None), ("NoContents", wrong))
        for wrong in (None, True, False, -1, 1.0, "a"):
            # Also where the form does not work.
            self.assertEqual(raised(left_kth, FORM, (), wrong), ("NoCount", wrong))
            self.assertEqual(raised(count_behind, FORM, 0, wrong), ("NoCount", wrong))
        self.assertIsNone(left_kth(FORM, (), 0))
        for wrong in (None, True, False, 1001, -1001, 1.0, "a"):
            self.assertEqual(raised(count_behind, FORM, wrong, None), ("NoNumber", wrong))


class ToldRows(unittest.TestCase):
    def test_sure_is_left_of_all_contents_and_risked_may_be_lost(self):
        for row in SMALL_ROWS:
            form = heap_form(row)
            sure = Counter(sure_numbers(form))
            put = Counter(step[1] for step in row if step[0] == "insert")
            self.assertEqual(Counter(sure_numbers(form) + risked_numbers(form)), put)
            for contents in SMALL_HEAPS:
                left = heap_left(form, contents)
                self.assertFalse(left is not None and sure - Counter(left))
            # Of greater numbers alone what is at risk is gone.
            left = heap_left(form, (3,) * 9)
            self.assertEqual(tuple(number for number in left if number < 3), sure_numbers(form))

    def test_told_row(self):
        for row in SMALL_ROWS:
            form = heap_form(row)
            told = told_heap_row(form)
            self.assertEqual(heap_form(told), form)
            self.assertEqual(sorted(told), sorted(row))
            self.assertEqual(told, inserts(*risked_numbers(form)) + (LEAST,) * row.count(LEAST)
                             + inserts(*sure_numbers(form)))
        row = (("insert", 1), ("insert", 3), LEAST, ("insert", 3), ("insert", 2))
        self.assertEqual(risked_numbers(heap_form(row)), (1,))
        self.assertEqual(sure_numbers(heap_form(row)), (2, 3, 3))

    def test_60_and_61_steps(self):
        row = inserts(*range(30)) + (LEAST,) * 30
        self.assertEqual(told_heap_row(heap_form(row)), row)
        longer = heap_then(heap_form(row), heap_form((LEAST,)))
        self.assertEqual(raised(told_heap_row, longer), ("TooMany", 60))
        self.assertEqual(len(risked_numbers(longer)), 30)

    def test_4000_and_4001_numbers(self):
        for many in (4000, 4001):
            sure = (0, ((None, 0, 0), (7, many, many)))
            risked = (0, ((None, -many, 0), (7, 0, 0)))
            self.assertEqual(risked_numbers(sure), ())
            self.assertEqual(sure_numbers(risked), ())
            self.assertEqual(raised(told_heap_row, sure), ("TooMany", 60))
            if many == 4000:
                self.assertEqual(sure_numbers(sure), (7,) * many)
                self.assertEqual(risked_numbers(risked), (7,) * many)
            else:
                self.assertEqual(raised(sure_numbers, sure), TOO_MANY)
                self.assertEqual(raised(risked_numbers, risked), TOO_MANY)

    def test_errors(self):
        for wrong in WRONG_FORMS:
            for call in (sure_numbers, risked_numbers, told_heap_row):
                self.assertEqual(raised(call, wrong), ("NoForm", wrong))


class Roads(unittest.TestCase):
    def test_beside_all_short_rows(self):
        steps = (LEAST, *inserts(0, 1, 2))
        heaps = [heap for many in range(4) for heap in combinations_with_replacement((0, 1, 2), many)]
        roads = {}
        for row in rows(steps, 6):
            for contents in heaps:
                left = left_by_row(HEAP, row, contents)
                if left is not None and len(left) <= 3:
                    roads.setdefault((contents, left), []).append(row)
        for (contents, other), found in roads.items():
            fewest = len(found[0])
            # Leasts first, as few as can be, then inserts, ascending.
            orderly = [row for row in found if len(row) == fewest
                       and row == (LEAST,) * row.count(LEAST) + tuple(sorted(row[row.count(LEAST):]))]
            self.assertEqual(least_road(contents, other), min(orderly, key=lambda row: row.count(LEAST)))
        self.assertEqual(len(roads), len(heaps) ** 2)

    def test_by_hand(self):
        self.assertEqual(least_road((), ()), ())
        self.assertEqual(least_road((1, 2, 3), (1, 3)), (LEAST, LEAST, ("insert", 1)))
        self.assertEqual(least_road((1, 5, 5, 5, 9), (1, 5, 9, 9)), (LEAST,) * 3 + inserts(1, 9))
        self.assertEqual(least_road((3,), (3, 4)), (("insert", 4),))

    def test_numbers_that_no_step_inserts(self):
        for number in (-1000, 1000):
            self.assertIsNone(least_road((), (number,)))
            self.assertIsNone(least_road((number,), (number, number)))
            self.assertEqual(least_road((number,), ()), (LEAST,))
            self.assertEqual(least_road((number,), (number,)), ())
            self.assertIsNone(least_road((), (number,) * 61))
        self.assertIsNone(least_road((-1000, 4), (-1000,)))
        self.assertEqual(least_road((4, 1000), (5, 1000)), (LEAST, ("insert", 5)))
        self.assertEqual(least_road((-1000, 4), (-999, 4)), (LEAST, ("insert", -999)))

    def test_60_and_61_steps(self):
        self.assertEqual(least_road((3,) * 30, (4,) * 30), (LEAST,) * 30 + inserts(*(4,) * 30))
        self.assertEqual(raised(least_road, (3,) * 30, (4,) * 31), ("TooMany", 60))
        self.assertEqual(raised(least_road, (3,) * 4000, ()), ("TooMany", 60))
        self.assertIsNone(least_road((3,) * 30, (4,) * 31 + (1000,)))

    def test_errors(self):
        for wrong in WRONG_CONTENTS:
            self.assertEqual(raised(least_road, wrong, "other"), ("NoContents", wrong))
            self.assertEqual(raised(least_road, (), wrong), ("NoContents", wrong))


if __name__ == "__main__":
    unittest.main()
