"""Promise [10], forms of all kinds: beside the functions of each kind's own file."""

import unittest
from itertools import product

from boxeffects import gauges, heaps, queues, rings, stacks, tables, tapes
from boxeffects.boxes import left_by_row
from boxeffects.forms import empty_form, form_of, is_form, joined, joined_all, left_by, rows_alike, works_on
from small import ALL_KINDS, ODD, SOME_CONTENTS, TOO_MANY, WRONG_KINDS, raised, small_rows

OWN = {
    "stack": (stacks.stack_form, stacks.stack_then, stacks.is_stack_form, stacks.stack_works, stacks.stack_left),
    "queue": (queues.queue_form, queues.queue_then, queues.is_queue_form, queues.queue_works, queues.queue_left),
    "ring": (rings.ring_form, rings.ring_then, rings.is_ring_form, rings.ring_works, rings.ring_left),
    "tape": (tapes.tape_form, tapes.tape_then, tapes.is_tape_form, tapes.tape_works, tapes.tape_left),
    "heap": (heaps.heap_form, heaps.heap_then, heaps.is_heap_form, heaps.heap_works, heaps.heap_left),
    "gauge": (gauges.gauge_form, gauges.gauge_then, gauges.is_gauge_form, gauges.gauge_works, gauges.gauge_left),
    "table": (tables.table_form, tables.table_then, tables.is_table_form, tables.table_works, tables.table_left),
}


def own_call(kind, number, *given):
    """What the function with this number of the kind's own file tells."""
    call = OWN[kind[0]][number]
    return call(kind, *given) if kind[0] in ("ring", "gauge") else call(*given)


def is_ever_nowhere(kind):
    """Whether some row of the kind is nowhere."""
    return kind[0] not in ("queue", "heap") and kind[2:] != ("stop",)


def long_form(kind, at):
    """A form of a kind as long as can be, with its letters at places or names from one on."""
    word = ("a",) * 4000
    if kind == ("stack",):
        return word, word
    if kind == ("queue",):
        return (), word, 0
    if kind == ("tape",):
        return 0, tuple((place, "a") for place in range(at, at + 4000)), ()
    names = sorted(tables_names(at))
    return tuple((name, "a") for name in names), ()


def tables_names(at):
    letters = "abcdefghijklmnopqrst"
    return ["zy"[at > 0] + "".join(signs) for signs in product(letters, repeat=3)][:4000]


class BesideEachKind(unittest.TestCase):
    def test_forms_of_rows(self):
        for kind in ALL_KINDS:
            for row in small_rows(kind, 3):
                form = form_of(kind, row)
                self.assertEqual(form, own_call(kind, 0, row))
                self.assertIs(is_form(kind, form), True)

    def test_empty_form(self):
        for kind in ALL_KINDS:
            self.assertEqual(empty_form(kind), own_call(kind, 0, ()))
        self.assertEqual(empty_form(("stack",)), ((), ()))
        self.assertEqual(empty_form(("ring", 2, "drop")), ((0, ()), (1, ()), (2, ())))
        self.assertEqual(empty_form(("gauge", 9, "stop")), (0, 0, 9))
        self.assertEqual(empty_form(("heap",)), (0, ((None, 0, 0),)))

    def test_is_form(self):
        values = (*ODD, None, *[form_of(kind, row) for kind in ALL_KINDS for row in small_rows(kind, 2)])
        for kind in ALL_KINDS:
            for value in values:
                self.assertIs(is_form(kind, value), own_call(kind, 2, value), (kind, value))

    def test_none_is_a_form_just_where_some_row_is_nowhere(self):
        for kind in ALL_KINDS:
            self.assertIs(is_form(kind, None), is_ever_nowhere(kind))
        nowhere = (
            (("stack",), (("push", "a"), ("pop", "b"))), (("tape",), (("write", "a"), ("expect", "b"))),
            (("ring", 12, "ignore"), (("take",),) * 13), (("ring", 12, "drop"), (("take",),) * 13),
            (("ring", 1, "fail"), (("put", "a"), ("put", "a"))), (("table",), (("clear", "n"), ("expect", "n", "a"))),
            (("gauge", 999, "fail"), (("add", 999), ("add", 1))),
        )
        for kind, row in nowhere:
            self.assertIsNone(form_of(kind, row))
        for kind in ALL_KINDS:
            if not is_ever_nowhere(kind):
                self.assertNotIn(None, [form_of(kind, row) for row in small_rows(kind, 4)])

    def test_joined(self):
        for kind in ALL_KINDS:
            for one, other in product(small_rows(kind, 2), repeat=2):
                forms = form_of(kind, one), form_of(kind, other)
                self.assertEqual(joined(kind, *forms), form_of(kind, one + other))
                self.assertEqual(joined(kind, *forms), own_call(kind, 1, *forms))

    def test_the_empty_form_changes_none(self):
        for kind in ALL_KINDS:
            for row in small_rows(kind, 3):
                form = form_of(kind, row)
                self.assertEqual(joined(kind, form, empty_form(kind)), form)
                self.assertEqual(joined(kind, empty_form(kind), form), form)

    def test_works_and_left(self):
        for kind in ALL_KINDS:
            for row, contents in product(small_rows(kind, 3), SOME_CONTENTS[kind]):
                form = form_of(kind, row)
                left = left_by_row(kind, row, contents)
                self.assertIs(works_on(kind, form, contents), left is not None)
                self.assertEqual(left_by(kind, form, contents), left)
                self.assertEqual(own_call(kind, 4, form, contents), left)

    def test_nowhere(self):
        for kind in ALL_KINDS:
            if is_ever_nowhere(kind):
                for contents in SOME_CONTENTS[kind]:
                    self.assertIs(works_on(kind, None, contents), False)
                    self.assertIsNone(left_by(kind, None, contents))
                self.assertIsNone(joined(kind, None, empty_form(kind)))
                self.assertIsNone(joined(kind, empty_form(kind), None))

    def test_rows_alike_just_if_no_contents_part_them(self):
        self.assertIs(rows_alike(("queue",), (("put", "a"), ("take", "a")), ()), False)
        self.assertIs(rows_alike(("stack",), (("push", "a"), ("pop", "a")), ()), True)
        for kind in ALL_KINDS:
            known = small_rows(kind, 2)
            effects = {row: [left_by_row(kind, row, contents) for contents in SOME_CONTENTS[kind]] for row in known}
            for one, other in product(known, repeat=2):
                self.assertIs(rows_alike(kind, one, other), effects[one] == effects[other], (kind, one, other))


class JoinedAll(unittest.TestCase):
    def test_from_the_left(self):
        for kind in ALL_KINDS:
            rows = small_rows(kind, 1) + small_rows(kind, 2)[::3]
            for chosen in (rows[:3], rows[2:7], rows[::5], rows[::-4]):
                forms = [form_of(kind, row) for row in chosen]
                told = joined_all(kind, forms)
                whole = sum(chosen, ())
                if len(whole) <= 60:
                    self.assertEqual(told, form_of(kind, whole))
                self.assertEqual(joined_all(kind, tuple(forms)), told)
                made = empty_form(kind)
                for form in forms:
                    made = joined(kind, made, form)
                self.assertEqual(told, made)

    def test_none_and_one(self):
        for kind in ALL_KINDS:
            self.assertEqual(joined_all(kind, []), empty_form(kind))
            self.assertEqual(joined_all(kind, ()), empty_form(kind))
            for row in small_rows(kind, 2):
                self.assertEqual(joined_all(kind, [form_of(kind, row)]), form_of(kind, row))

    def test_wrong_values(self):
        for kind in ALL_KINDS:
            good = empty_form(kind)
            for wrong in (None, 0, "ab", {}, {0: good}, object(), set()):
                self.assertEqual(raised(joined_all, kind, wrong), ("NoForm", None))
            for wrong in (0, "ab", (), [good], True, object()):
                self.assertEqual(raised(joined_all, kind, [good, good, wrong, wrong]), ("NoForm", 2))
                self.assertEqual(raised(joined_all, kind, (wrong,)), ("NoForm", 0))
            if is_ever_nowhere(kind):
                self.assertIsNone(joined_all(kind, [good, None, good]))
            else:
                self.assertEqual(raised(joined_all, kind, [good, None]), ("NoForm", 1))

    def test_more_than_4000_on_the_way(self):
        kind = ("stack",)
        push = ((), ("a",) * 4000)
        pop = (("a",) * 4000, ())
        one = ((), ("a",))
        self.assertEqual(joined_all(kind, [push, pop, push, pop, push]), push)
        self.assertEqual(raised(joined_all, kind, [push, one, pop]), TOO_MANY)
        self.assertEqual(raised(joined_all, kind, [push, one, None]), TOO_MANY)
        self.assertIsNone(joined_all(kind, [None, push, one]))
        self.assertEqual(joined_all(kind, [(("a",), ()), push, pop]), (("a",), ()))
        # A wrong form is told ahead of what is too long.
        self.assertEqual(raised(joined_all, kind, [push, one, 5]), ("NoForm", 2))

    def test_a_list_changed_afterwards_changes_nothing(self):
        forms = [((), ("a",))]
        told = joined_all(("stack",), forms)
        forms.append(((), ("b",)))
        self.assertEqual(told, ((), ("a",)))
        self.assertEqual(joined_all(("stack",), forms), ((), ("b", "a")))


class TooLong(unittest.TestCase):
    def test_joined(self):
        for kind in (("stack",), ("queue",), ("tape",), ("table",)):
            one = long_form(kind, 0)
            self.assertIs(is_form(kind, one), True)
            other = {"stack": (("a",) * 4000, ("a",) * 4000), "queue": ((), ("b",), 0)}.get(kind[0], long_form(kind, 5))
            if kind == ("stack",):
                self.assertEqual(joined(kind, one, other), one)
                other = ((), ("b",))
            self.assertEqual(raised(joined, kind, one, other), TOO_MANY)
            self.assertEqual(raised(joined, kind, one, 7), ("NoForm", 7))
            if is_ever_nowhere(kind):
                self.assertIsNone(joined(kind, one, None))

    def test_left(self):
        self.assertEqual(raised(left_by, ("stack",), ((), ("a",)), ("b",) * 4000), TOO_MANY)
        self.assertEqual(raised(left_by, ("queue",), ((), ("a",), 0), ("b",) * 4000), TOO_MANY)
        self.assertEqual(raised(left_by, ("heap",), (0, ((None, 0, 0), (1, 1, 1))), (5,) * 4000), TOO_MANY)
        pairs = tuple((place, "b") for place in range(4000))
        self.assertEqual(raised(left_by, ("tape",), (0, (), ((-1, "b"),)), (pairs, "a")), TOO_MANY)
        table = long_form(("table",), 0)[0]
        self.assertEqual(raised(left_by, ("table",), ((), (("a", "b"),)), table), TOO_MANY)
        self.assertEqual(left_by(("stack",), (("b",), ("a",)), ("b",) * 4000), ("a",) + ("b",) * 3999)
        self.assertIsNone(left_by(("stack",), (("c",), ("a",) * 9), ("b",) * 4000))


class Errors(unittest.TestCase):
    def test_no_kind_ahead_of_all(self):
        odd = object()
        for wrong in WRONG_KINDS:
            self.assertEqual(raised(empty_form, wrong), ("NoKind", wrong))
            for call in (form_of, is_form, joined_all):
                self.assertEqual(raised(call, wrong, odd), ("NoKind", wrong))
            for call in (joined, works_on, left_by, rows_alike):
                self.assertEqual(raised(call, wrong, odd, odd), ("NoKind", wrong))

    def test_no_row(self):
        for kind in ALL_KINDS:
            good = small_rows(kind, 1)[-1]
            for wrong in (None, list(good), good[0], (("no", "a"),), good * 61, (good,), "ab"):
                self.assertEqual(raised(form_of, kind, wrong), ("NoRow", wrong))
                self.assertEqual(raised(rows_alike, kind, wrong, None), ("NoRow", wrong))
                self.assertEqual(raised(rows_alike, kind, good, wrong), ("NoRow", wrong))
            self.assertIsNone(raised(form_of, kind, good * 60))

    def test_no_form_then_no_contents(self):
        for kind in ALL_KINDS:
            form = empty_form(kind)
            for wrong in (0, "ab", (), [form], (form,), True):
                for call in (joined, works_on, left_by):
                    self.assertEqual(raised(call, kind, wrong, "other"), ("NoForm", wrong))
                self.assertEqual(raised(joined, kind, form, wrong), ("NoForm", wrong))
            for wrong in (None, "ab", -1, True, ["a"], ("A",)):
                self.assertEqual(raised(works_on, kind, form, wrong), ("NoContents", wrong))
                self.assertEqual(raised(left_by, kind, form, wrong), ("NoContents", wrong))
                if is_ever_nowhere(kind):
                    self.assertEqual(raised(left_by, kind, None, wrong), ("NoContents", wrong))


if __name__ == "__main__":
    unittest.main()
