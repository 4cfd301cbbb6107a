"""Promise [10], several boxes, and [0.2] (b) of them: mixed rows, mixed forms, exchanges, orders."""

import unittest
from collections import deque
from itertools import permutations, product
from math import factorial

from boxeffects.boxes import failing_step, left_by_row
from boxeffects.errors import BoxError
from boxeffects.forms import form_of, is_form, joined, left_by, works_on
from boxeffects.several import (
    Boxes,
    all_left,
    failing_of,
    first_failing,
    how_many_orders,
    is_mixed_form,
    joined_mixed,
    leads_by,
    least_exchanges,
    mixed_alike,
    mixed_form,
    mixed_left,
    mixed_works,
    orderly_row,
    own_row,
    parting_box,
    same_but_order,
    told_exchanges,
)
from small import ALL_KINDS, ODD, TOO_MANY, raised, rows, words

PAIRS = (("s", ("stack",)), ("q", ("queue",)), ("g", ("gauge", 2, "fail")))
BOXES = Boxes(PAIRS)
STEPS = (("s", ("push", "a")), ("s", ("pop", "a")), ("q", ("put", "a")), ("q", ("take", "a")), ("g", ("add", 1)),
         ("g", ("sub", 2)))
# Few steps, so that all orders of a row can be gone through.
MIXED = rows(STEPS, 3)
CONTENTS = list(product(((), ("a",), ("b",), ("a", "a"), ("a", "b"), ("a", "a", "a")), (*words(2), ("a", "a", "a")),
                        (0, 1, 2)))
PUSH_A, PUSH_B = ("s", ("push", "a")), ("s", ("push", "b"))
PUT_A = ("q", ("put", "a"))
ADD = ("g", ("add", 1))
NO_ROWS = (None, [], [PUSH_A], PUSH_A, (("push", "a"),), (("t", ("push", "a")),), (("s", ("put", "a")),), (PUSH_A,) * 61,
           (PUSH_A, ["s", ("push", "a")]), (("s", ["push", "a"]),), (("s", "push", "a"),), ((None, ("push", "a")),),
           (("g", ("add", 3)),), (("g", ("add", True)),), ((["s"], ("push", "a")),), "ab")
NO_CONTENTS = (None, [(), (), 0], ((), ()), ((), (), 0, 0), ((), (), 3), ((), (), True), (("A",), (), 0), (0, (), ()),
               ([], (), 0), "abc")
NO_BOXES = (None, PAIRS, [PAIRS], "ab", 0, True, object(), Boxes)
STACK_FORM, QUEUE_FORM, GAUGE_FORM = ((), ("a",)), ((), ("a",), 0), (0, 1, 1)
NO_FORMS = ((), ((), ("a",)), [STACK_FORM, QUEUE_FORM, GAUGE_FORM], (STACK_FORM, QUEUE_FORM),
            (STACK_FORM, QUEUE_FORM, None), (None, QUEUE_FORM, GAUGE_FORM), (STACK_FORM, None, GAUGE_FORM),
            (None, None, None), (QUEUE_FORM, STACK_FORM, GAUGE_FORM), (STACK_FORM, QUEUE_FORM, (0, 3, 0)),
            (STACK_FORM, QUEUE_FORM, GAUGE_FORM, GAUGE_FORM), 0, False, "abc")


def parts(row):
    """The own rows of the three boxes, straight by their definition."""
    return [tuple(step for name, step in row if name == box) for box, _ in PAIRS]


class TheBoxes(unittest.TestCase):
    def test_right_pairs(self):
        six = [("abcd"[at:] + "z", kind) for at, kind in enumerate(ALL_KINDS[:4])] + [("x", ("heap",)), ("y", ("table",))]
        for pairs in (PAIRS, list(PAIRS), PAIRS[:1], PAIRS[::-1], [("zzzz", ("tape",))], six[1:], [*six[1:], ("w", ("heap",))]):
            boxes = Boxes(pairs)
            self.assertEqual(boxes.names(), [name for name, _ in pairs])
            for name, kind in pairs:
                self.assertEqual(boxes.kind_of(name), kind)

    def test_wrong_pairs(self):
        for wrong in (None, 0, "ab", {}, {"s": ("stack",)}, (), [], PAIRS + tuple((name, ("heap",)) for name in "vwxy"),
                      object(), set(PAIRS), BOXES):
            self.assertEqual(raised(Boxes, wrong), ("NoBoxes", None))
        pair = ("t", ("heap",))
        for wrong in (None, "ab", (), ("s",), ["s", ("stack",)], ("s", ("stack",), 1), ("S", ("stack",)), (None, ("stack",)),
                      ("abcde", ("stack",)), ("s", "stack"), ("s", ["stack"]), ("s", ("ring", 0, "drop")), ("", ("stack",)),
                      (["s"], ("stack",)), pair, ("t", ("stack",)), *ODD):
            self.assertEqual(raised(Boxes, [pair, wrong, None]), ("NoBoxes", 1), wrong)
        self.assertEqual(raised(Boxes, [("S", ("stack",)), pair, pair]), ("NoBoxes", 0))
        self.assertEqual(raised(Boxes, [("a", ("stack",)), ("b", ("heap",)), ("a", ("heap",))]), ("NoBoxes", 2))
        seven = [(name, ("heap",)) for name in "abcdefg"]
        self.assertEqual(raised(Boxes, seven), ("NoBoxes", None))
        self.assertIsNone(raised(Boxes, seven[:6]))

    def test_kind_of_no_box(self):
        for wrong in ("t", "S", "", None, 0, ("s",), ["s"], {}, True, *ODD):
            self.assertEqual(raised(BOXES.kind_of, wrong), ("NoBox", wrong))

    def test_has_step(self):
        for step in STEPS:
            self.assertIs(BOXES.has_step(step), True)
        for wrong in (*[row[-1] for row in NO_ROWS if isinstance(row, tuple) and row and row != (PUSH_A,) * 61], ("s",),
                      ("s", None), (), *ODD):
            self.assertIs(BOXES.has_step(wrong), False, wrong)

    def test_equal_just_to_like_boxes_in_order(self):
        self.assertEqual(BOXES, Boxes(list(PAIRS)))
        for other in (Boxes(PAIRS[::-1]), Boxes(PAIRS[:2]), Boxes([("t", ("stack",)), *PAIRS[1:]]),
                      Boxes([*PAIRS[:2], ("g", ("gauge", 2, "stop"))]), PAIRS, None, "ab"):
            self.assertNotEqual(BOXES, other)
            self.assertIs(BOXES == other, False)

    def test_copies(self):
        pairs = list(PAIRS)
        boxes = Boxes(pairs)
        pairs.clear()
        boxes.names().append("t")
        self.assertEqual(boxes.names(), ["s", "q", "g"])
        self.assertEqual(boxes, BOXES)


class OneByOne(unittest.TestCase):
    def test_own_rows(self):
        for row in MIXED:
            self.assertEqual([own_row(BOXES, row, name) for name in "sqg"], parts(row))

    def test_left_and_failing(self):
        for row in MIXED:
            for contents in CONTENTS:
                left = [left_by_row(kind, own, part) for (_, kind), own, part in zip(PAIRS, parts(row), contents)]
                whole = None if None in left else tuple(left)
                self.assertEqual(all_left(BOXES, row, contents), whole)
                self.check_failing(row, contents)
                form = mixed_form(BOXES, row)
                self.assertIs(mixed_works(BOXES, form, contents), whole is not None)
                self.assertEqual(mixed_left(BOXES, form, contents), whole)

    def check_failing(self, row, contents):
        failing = failing_of(BOXES, row, contents)
        self.assertEqual(list(failing), ["s", "q", "g"])
        for (name, kind), own, part in zip(PAIRS, parts(row), contents):
            index = failing_step(kind, own, part)
            places = [place for place, step in enumerate(row) if step[0] == name]
            self.assertEqual(failing[name], None if index is None else places[index])
        told = [index for index in failing.values() if index is not None]
        self.assertEqual(first_failing(BOXES, row, contents), min(told) if told else None)

    def test_by_hand(self):
        row = (PUSH_A, ("q", ("take", "b")), ADD, ADD, ADD, ("s", ("pop", "b")))
        contents = ((), ("a",), 0)
        self.assertEqual(failing_of(BOXES, row, contents), {"s": 5, "q": 1, "g": 4})
        self.assertEqual(first_failing(BOXES, row, contents), 1)
        self.assertIsNone(all_left(BOXES, row, contents))
        self.assertEqual(all_left(BOXES, row[:1], contents), (("a",), ("a",), 0))
        self.assertEqual(all_left(BOXES, (), contents), contents)

    def test_more_than_4000_letters(self):
        full = ("a",) * 4000
        self.assertEqual(raised(all_left, BOXES, (PUSH_A,), (full, (), 0)), TOO_MANY)
        self.assertEqual(raised(mixed_left, BOXES, mixed_form(BOXES, (PUSH_A,)), (full, (), 0)), TOO_MANY)
        # Neither what stands in between is asked, nor a row that fails in another box.
        self.assertEqual(all_left(BOXES, (PUSH_A, STEPS[1]), (full, (), 0)), (full, (), 0))
        row = (PUSH_A, ("g", ("sub", 2)))
        self.assertIsNone(all_left(BOXES, row, (full, (), 0)))
        self.assertIsNone(mixed_left(BOXES, mixed_form(BOXES, row), (full, (), 0)))
        self.assertEqual(raised(all_left, BOXES, row, (full, (), 2)), TOO_MANY)
        self.assertEqual(first_failing(BOXES, row, (full, (), 0)), 1)


class MixedForms(unittest.TestCase):
    def test_forms_of_the_own_rows(self):
        for row in MIXED:
            forms = [form_of(kind, own) for (_, kind), own in zip(PAIRS, parts(row))]
            self.assertEqual(mixed_form(BOXES, row), None if None in forms else tuple(forms))
            self.assertIs(is_mixed_form(BOXES, mixed_form(BOXES, row)), True)

    def test_is_mixed_form(self):
        for value in (*NO_FORMS, *ODD):
            self.assertIs(is_mixed_form(BOXES, value), False, value)
        self.assertIs(is_mixed_form(BOXES, (STACK_FORM, QUEUE_FORM, GAUGE_FORM)), True)
        self.assertIs(is_mixed_form(BOXES, None), True)
        never = Boxes([("q", ("queue",)), ("h", ("heap",)), ("g", ("gauge", 3, "stop"))])
        self.assertIs(is_mixed_form(never, None), False)
        for name, kind in enumerate(ALL_KINDS):
            boxes = Boxes([("q", ("queue",)), ("x", kind)])
            self.assertIs(is_mixed_form(boxes, None), is_form(kind, None))

    def test_joined(self):
        for one, other in product(MIXED[::7], MIXED[::5]):
            both = joined_mixed(BOXES, mixed_form(BOXES, one), mixed_form(BOXES, other))
            self.assertEqual(both, mixed_form(BOXES, one + other))

    def test_both_bracketings(self):
        forms = list({repr(form): form for form in (mixed_form(BOXES, row) for row in MIXED)}.values())[::6]
        for one, other, third in product(forms, repeat=3):
            both = joined_mixed(BOXES, one, other)
            self.assertEqual(joined_mixed(BOXES, both, third),
                             joined_mixed(BOXES, one, joined_mixed(BOXES, other, third)))

    def test_none_ahead_of_too_many(self):
        full = (((), ("a",) * 4000), QUEUE_FORM, GAUGE_FORM)
        more = (STACK_FORM, QUEUE_FORM, (0, 0, 2))
        self.assertEqual(raised(joined_mixed, BOXES, full, more), TOO_MANY)
        self.assertIsNone(joined_mixed(BOXES, full, (STACK_FORM, QUEUE_FORM, (0, 2, 0))))
        self.assertIsNone(joined_mixed(BOXES, full, None))
        self.assertIsNone(joined_mixed(BOXES, None, full))
        two = Boxes([("g", ("gauge", 2, "fail")), ("s", ("stack",))])
        self.assertIsNone(joined_mixed(two, (GAUGE_FORM, full[0]), ((0, 2, 0), STACK_FORM)))
        self.assertEqual(raised(joined_mixed, two, (GAUGE_FORM, full[0]), (GAUGE_FORM, STACK_FORM)), TOO_MANY)

    def test_each_box_as_its_own_form_does(self):
        for kind in ALL_KINDS:
            boxes = Boxes([("x", kind)])
            form = mixed_form(boxes, ())
            self.assertEqual(form, (form_of(kind, ()),))
            contents = {"gauge": 1, "tape": ((), "a")}.get(kind[0], ())
            self.assertIs(mixed_works(boxes, form, (contents,)), works_on(kind, form[0], contents))
            self.assertEqual(mixed_left(boxes, form, (contents,)), (left_by(kind, form[0], contents),))
            self.assertEqual(joined_mixed(boxes, form, form), (joined(kind, form[0], form[0]),))

    def test_alike(self):
        effects = {row: [all_left(BOXES, row, contents) for contents in CONTENTS] for row in MIXED}
        for one, other in product(MIXED[::4], MIXED):
            alike = effects[one] == effects[other]
            self.assertIs(mixed_alike(BOXES, one, other), alike, (one, other))
            self.assertIs(parting_box(BOXES, one, other) is None, alike)

    def test_parting_box(self):
        nowhere = (PUSH_A, ("s", ("pop", "b")))
        self.assertEqual(parting_box(BOXES, (PUSH_A, ADD), (PUT_A, PUSH_A)), "q")
        self.assertEqual(parting_box(BOXES, (PUSH_A, ADD), (PUSH_A,)), "g")
        self.assertIsNone(parting_box(BOXES, (PUSH_A, ADD), (ADD, PUSH_A)))
        self.assertEqual(parting_box(BOXES, nowhere, ()), "s")
        self.assertEqual(parting_box(BOXES, (PUT_A, ADD, ADD, ADD), ()), "q")
        self.assertIsNone(parting_box(BOXES, nowhere, (PUT_A, ADD, ADD, ADD)))
        self.assertIs(mixed_alike(BOXES, nowhere, (PUT_A, ADD, ADD, ADD)), True)


class Orders(unittest.TestCase):
    def neighbours(self, row):
        """Each row that one exchange makes, with the exchange."""
        for at in range(len(row) - 1):
            if row[at][0] != row[at + 1][0]:
                yield at, row[:at] + (row[at + 1], row[at]) + row[at + 2:]

    def orders(self, row):
        """All rows that exchanges lead to, with the least number of exchanges."""
        found = {row: 0}
        waiting = deque([row])
        while waiting:
            now = waiting.popleft()
            for _, other in self.neighbours(now):
                if other not in found:
                    found[other] = found[now] + 1
                    waiting.append(other)
        return found

    def short_rows(self):
        return [(), (PUSH_A,), (PUSH_A, PUSH_A, ADD), (PUSH_A, PUT_A, ADD, PUSH_B), (PUSH_A, PUSH_B, ADD, ADD, PUT_A),
                (PUSH_A, ADD, PUT_A, PUSH_A, ADD, PUSH_A), (PUT_A, PUT_A, PUSH_A, PUSH_A, PUSH_B, PUT_A)]

    def test_exchanges_beside_all_orders(self):
        for row in self.short_rows():
            orders = self.orders(row)
            self.assertEqual(how_many_orders(BOXES, row), len(orders))
            for other in set(permutations(row)):
                self.assertIs(same_but_order(BOXES, row, other), other in orders)
                self.assertEqual(least_exchanges(BOXES, row, other), orders.get(other))
                told = told_exchanges(BOXES, row, other)
                if other in orders:
                    self.assertEqual(len(told), orders[other])
                    self.assertEqual(told, self.by_definition(row, other))
                    self.assertIs(leads_by(BOXES, row, other, told), True)
                    self.assertIs(leads_by(BOXES, row, other, tuple(told)), True)
                else:
                    self.assertIsNone(told)

    def by_definition(self, row, other):
        """The told exchanges, each time from the first place at which the other row has another step."""
        told = []
        while row != other:
            place = min(at for at in range(len(row)) if row[at] != other[at])
            at = min(at for at in range(place, len(row)) if row[at][0] == other[place][0])
            told.append(at - 1)
            row = row[:at - 1] + (row[at], row[at - 1]) + row[at + 1:]
        return told

    def test_leads_by_beside_all_short_values(self):
        for row in self.short_rows()[2:5]:
            for many in range(4):
                for value in product(range(-1, len(row) + 1), repeat=many):
                    self.assertEqual(self.end_of(row, value) is not None,
                                     any(leads_by(BOXES, row, other, value) for other in self.orders(row)))
                    end = self.end_of(row, value)
                    for other in list(self.orders(row))[:6]:
                        self.assertIs(leads_by(BOXES, row, other, value), end == other)

    def end_of(self, row, value):
        for at in value:
            row = dict(self.neighbours(row)).get(at)
            if row is None:
                return None
        return row

    def test_leads_by_of_any_value(self):
        row, other = (PUSH_A, ADD), (ADD, PUSH_A)
        self.assertIs(leads_by(BOXES, row, other, [0]), True)
        for wrong in (None, 0, "0", {0: 0}, [False], (False,), [True], [0.0], [-1], [1], [None], [[0]], [0, 0], [], *ODD):
            self.assertIs(leads_by(BOXES, row, other, wrong), False)
        self.assertIs(leads_by(BOXES, row, row, []), True)
        self.assertIs(leads_by(BOXES, row, row, [0, 0]), True)
        self.assertIs(leads_by(BOXES, row, row, [0] * 4000), True)
        self.assertIs(leads_by(BOXES, row, row, [0] * 4002), False)
        self.assertIs(leads_by(BOXES, row, other, [0] * 3999), True)
        self.assertIs(leads_by(BOXES, row, other, [0] * 4001), False)
        self.assertIs(leads_by(BOXES, row, (), []), False)
        self.assertIs(leads_by(BOXES, (PUSH_A, PUSH_A), (PUSH_A, PUSH_A), [0]), False)
        self.assertIs(leads_by(BOXES, (PUSH_A,), (PUSH_A,), [0]), False)
        self.assertIs(leads_by(BOXES, (), (), [0]), False)

    def test_a_list_changed_afterwards_changes_nothing(self):
        row, other = (PUSH_A, ADD), (ADD, PUSH_A)
        told = told_exchanges(BOXES, row, other)
        told.append(0)
        self.assertEqual(told_exchanges(BOXES, row, other), [0])
        self.assertIs(leads_by(BOXES, row, other, told), False)
        self.assertEqual(told, [0, 0])

    def test_orderly_rows(self):
        for row in MIXED:
            orderly = orderly_row(BOXES, row)
            self.assertEqual(orderly, tuple(step for name in "sqg" for step in row if step[0] == name))
            self.assertIs(same_but_order(BOXES, row, orderly), True)

    def test_long_rows(self):
        row = (PUSH_A, PUT_A, ADD) * 20
        self.assertEqual(how_many_orders(BOXES, row), factorial(60) // factorial(20) ** 3)
        self.assertEqual(how_many_orders(BOXES, (PUSH_A,) * 60), 1)
        self.assertEqual(how_many_orders(BOXES, (PUSH_A,) * 59 + (ADD,)), 60)
        other = orderly_row(BOXES, row)
        self.assertEqual(least_exchanges(BOXES, row, other), 3 * 190)
        told = told_exchanges(BOXES, row, other)
        self.assertEqual(len(told), 570)
        self.assertIs(leads_by(BOXES, row, other, told), True)
        self.assertEqual(least_exchanges(BOXES, other, other[40:] + other[:40]), 800)


class Errors(unittest.TestCase):
    CALLS = ((own_row, 2), (all_left, 2), (first_failing, 2), (failing_of, 2), (mixed_form, 1), (is_mixed_form, 1),
             (joined_mixed, 2), (mixed_works, 2), (mixed_left, 2), (mixed_alike, 2), (parting_box, 2),
             (same_but_order, 2), (least_exchanges, 2), (told_exchanges, 2), (leads_by, 3), (orderly_row, 1),
             (how_many_orders, 1))

    def test_no_boxes_ahead_of_all(self):
        for wrong in NO_BOXES:
            for call, more in self.CALLS:
                self.assertEqual(raised(call, wrong, *[object()] * more), ("NoBoxes", wrong), call)

    def test_no_row(self):
        for wrong in NO_ROWS:
            for call in (mixed_form, orderly_row, how_many_orders):
                self.assertEqual(raised(call, BOXES, wrong), ("NoRow", wrong))
            for call in (own_row, all_left, first_failing, failing_of):
                self.assertEqual(raised(call, BOXES, wrong, None), ("NoRow", wrong))
            for call in (mixed_alike, parting_box, same_but_order, least_exchanges, told_exchanges):
                self.assertEqual(raised(call, BOXES, wrong, "other"), ("NoRow", wrong))
                self.assertEqual(raised(call, BOXES, (), wrong), ("NoRow", wrong))
            self.assertEqual(raised(leads_by, BOXES, wrong, "other", []), ("NoRow", wrong))
            self.assertEqual(raised(leads_by, BOXES, (), wrong, None), ("NoRow", wrong))

    def test_60_and_61_steps(self):
        self.assertEqual(mixed_form(BOXES, (PUSH_A,) * 60)[0], ((), ("a",) * 60))
        self.assertEqual(raised(mixed_form, BOXES, (PUSH_A, PUT_A) * 30 + (PUSH_A,))[0], "NoRow")

    def test_no_box_and_no_contents(self):
        for wrong in ("t", None, 0, ["s"], ("s",), True):
            self.assertEqual(raised(own_row, BOXES, (), wrong), ("NoBox", wrong))
        form = (STACK_FORM, QUEUE_FORM, GAUGE_FORM)
        for wrong in NO_CONTENTS:
            for call in (all_left, first_failing, failing_of):
                self.assertEqual(raised(call, BOXES, (), wrong), ("NoContents", wrong))
            for call in (mixed_works, mixed_left):
                self.assertEqual(raised(call, BOXES, form, wrong), ("NoContents", wrong))
                self.assertEqual(raised(call, BOXES, None, wrong), ("NoContents", wrong))

    def test_no_form(self):
        form = (STACK_FORM, QUEUE_FORM, GAUGE_FORM)
        for wrong in NO_FORMS:
            for call in (joined_mixed, mixed_works, mixed_left):
                self.assertEqual(raised(call, BOXES, wrong, "other"), ("NoForm", wrong))
            self.assertEqual(raised(joined_mixed, BOXES, form, wrong), ("NoForm", wrong))
            self.assertEqual(raised(joined_mixed, BOXES, None, wrong), ("NoForm", wrong))
        never = Boxes([("q", ("queue",))])
        self.assertEqual(raised(joined_mixed, never, None, None), ("NoForm", None))

    def test_errors_are_caught_as_box_errors(self):
        with self.assertRaises(BoxError):
            mixed_form(BOXES, None)


if __name__ == "__main__":
    unittest.main()
