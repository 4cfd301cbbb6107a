"""Promise [9], and [0.2] (a) and (b) of tables: forms, what is common, changing places, told rows."""

import unittest
from itertools import product

from boxeffects.boxes import left_by_row
from boxeffects.kinds import letter_number
from boxeffects.tables import (
    can_change_places,
    is_table_form,
    table_common,
    table_form,
    table_left,
    table_row,
    table_then,
    table_works,
)
from small import ODD, TABLE_STEPS, TOO_MANY, raised, rows, tables

TABLE = ("table",)
EMPTY = ((), ())
SMALL_ROWS = rows(TABLE_STEPS, 3)
SMALL_TABLES = tables("mno")
NAMES = sorted(letter_number(number) for number in range(8002))
WRONG_ROWS = (None, [("clear", "n")], ("clear", "n"), (("clear", "n", "x"),), (("set", "n"),), (("set", "n", None),),
              (("absent", "N"),), (("clear", "n"),) * 61, (("expect", 1, "x"),))
WRONG_CONTENTS = (None, [], (("n", None),), (("n", "x"), ("m", "x")), (("n", "x"), ("n", "y")), (["n", "x"],), ("n", "x"),
                  tuple((name, "x") for name in NAMES[:4001]))
WRONG_FORMS = (
    (), ((),), ((), (), ()), [(), ()], ([], ()), ((), []), ((("n", "x"),), (("n", "x"),)),
    ((("n", None),), (("n", None),)), ((("n", "x"), ("n", "y")), ()), ((), (("n", "x"), ("n", None))),
    ((("n", "x"), ("m", "x")), ()), ((), (("n", "x"), ("m", "x"))), ((("N", "x"),), ()), ((("n", "X"),), ()),
    ((("n", True),), ()), (((1, "x"),), ()), ((("n",),), ()), ((("n", "x", "y"),), ()), ((["n", "x"],), ()), ("ab", ()),
    (None, ()), 0, "ab", (tuple((name, "x") for name in NAMES[:4001]), ()),
    ((), tuple((name, None) for name in NAMES[:4001])), ((None,), ()), (((None, None),), ()),
)


def entries(begin, many, what):
    return tuple((name, what) for name in NAMES[begin:begin + many])


def small_forms():
    """All forms of the names m and n, with one letter and nothing; and None."""
    parts = [tuple(pair for pair in pairs if pair) for pairs in product(
        (None, ("m", "x"), ("m", None)), (None, ("n", "x"), ("n", None)))]
    return [None] + [form for form in product(parts, repeat=2) if is_table_form(form)]


class Forms(unittest.TestCase):
    def test_by_hand(self):
        self.assertEqual(table_form(()), EMPTY)
        self.assertEqual(table_form((("set", "n", "x"),)), ((), (("n", "x"),)))
        self.assertEqual(table_form((("clear", "n"),)), ((), (("n", None),)))
        self.assertEqual(table_form((("expect", "n", "x"),)), ((("n", "x"),), ()))
        self.assertEqual(table_form((("absent", "n"),)), ((("n", None),), ()))
        self.assertEqual(table_form((("absent", "n"), ("set", "n", "x"), ("clear", "n"))), ((("n", None),), ()))
        self.assertEqual(table_form((("set", "n", "x"), ("expect", "m", "y"), ("set", "m", "x"))),
                         ((("m", "y"),), (("m", "x"), ("n", "x"))))
        self.assertIsNone(table_form((("set", "n", "x"), ("absent", "n"))))
        self.assertIsNone(table_form((("clear", "n"), ("expect", "n", "x"))))
        self.assertIsNone(table_form((("absent", "n"), ("expect", "n", "x"))))
        self.assertIsNone(table_form((("expect", "n", "x"), ("expect", "n", "y"))))

    def test_names_and_letters_that_are_called_as_steps(self):
        row = (("set", "set", "set"), ("expect", "set", "set"), ("clear", "set"), ("absent", "set"))
        self.assertEqual(table_form(row), ((), (("set", None),)))

    def test_forms_do_what_the_steps_do(self):
        for row in SMALL_ROWS:
            form = table_form(row)
            self.assertIs(is_table_form(form), True)
            for contents in SMALL_TABLES:
                left = left_by_row(TABLE, row, contents)
                self.assertIs(table_works(form, contents), left is not None)
                self.assertEqual(table_left(form, contents), left)

    def test_alike_just_if_the_forms_are_equal(self):
        effects = {}
        for row in SMALL_ROWS:
            effect = tuple(left_by_row(TABLE, row, table) for table in SMALL_TABLES)
            self.assertEqual(effects.setdefault(effect, table_form(row)), table_form(row))
        self.assertEqual(len(set(effects.values())), len(effects))

    def test_is_table_form(self):
        for form in (*small_forms(), (entries(0, 4000, None), entries(0, 4000, "x")),
                     ((("n", None),), (("n", "x"),)), ((("n", "x"),), (("n", None),))):
            self.assertIs(is_table_form(form), True, form)
        for value in (*WRONG_FORMS, *ODD):
            self.assertIs(is_table_form(value), False, value)


class Then(unittest.TestCase):
    def test_form_of_both_rows(self):
        for one in rows(TABLE_STEPS, 2):
            for other in SMALL_ROWS:
                self.assertEqual(table_then(table_form(one), table_form(other)), table_form(one + other))
                self.assertEqual(table_then(table_form(other), table_form(one)), table_form(other + one))

    def test_both_bracketings(self):
        for one, other, third in product(small_forms(), repeat=3):
            both = table_then(one, other)
            self.assertEqual(table_then(both, third), table_then(one, table_then(other, third)))

    def test_more_than_4000_pairs(self):
        full = (entries(0, 4000, "x"), ())
        laid = ((), entries(0, 4000, "x"))
        more = NAMES[4000]
        self.assertEqual(table_then(full, laid), full)
        self.assertEqual(raised(table_then, full, (((more, None),), ())), TOO_MANY)
        self.assertEqual(raised(table_then, laid, ((), ((more, None),))), TOO_MANY)
        self.assertIsNone(table_then(full, (((NAMES[0], None), (more, "x")), ())))
        self.assertIsNone(table_then(full, None))
        self.assertEqual(table_then(full, ((), ((more, "x"),))), (full[0], ((more, "x"),)))

    def test_errors(self):
        for wrong in WRONG_FORMS:
            for call in (table_then, table_common, can_change_places):
                self.assertEqual(raised(call, wrong, "other"), ("NoForm", wrong))
                self.assertEqual(raised(call, None, wrong), ("NoForm", wrong))
        for wrong in WRONG_ROWS:
            self.assertEqual(raised(table_form, wrong), ("NoRow", wrong))


class CommonAndPlaces(unittest.TestCase):
    def test_common_beside_all_small_tables(self):
        for one, other in product(small_forms(), repeat=2):
            both = [table for table in SMALL_TABLES if table_works(one, table) and table_works(other, table)]
            common = table_common(one, other)
            self.assertEqual([table for table in SMALL_TABLES if table_works(common, table)], both)
            if common is not None:
                self.assertEqual(common[1], ())
                self.assertEqual(table_then(common, common), common)

    def test_common_by_hand(self):
        one = ((("n", "x"),), (("n", "y"),))
        self.assertEqual(table_common(one, ((("m", None),), (("n", "z"),))), ((("m", None), ("n", "x")), ()))
        self.assertIsNone(table_common(one, ((("n", None),), ())))
        self.assertIsNone(table_common(None, one))
        self.assertIsNone(table_common(one, None))

    def test_common_of_more_than_4000_pairs(self):
        full = (entries(0, 4000, "x"), ())
        self.assertEqual(table_common(full, (entries(2, 9, "x"), entries(4000, 4000, "x"))), full)
        self.assertEqual(raised(table_common, full, (entries(3999, 2, "x"), ())), TOO_MANY)
        self.assertIsNone(table_common(full, (((NAMES[0], None), (NAMES[4000], "x")), ())))

    def test_changing_places(self):
        for one, other in product(small_forms(), repeat=2):
            alike = all(self.left(one, other, table) == self.left(other, one, table) for table in SMALL_TABLES)
            self.assertIs(can_change_places(one, other), alike, (one, other))
        self.assertIs(can_change_places(None, ((), (("n", "x"),))), True)
        # Nowhere both ways.
        self.assertIs(can_change_places(((("n", "x"),), ()), ((("n", "y"),), ())), True)

    def left(self, one, other, table):
        left = table_left(one, table)
        return None if left is None else table_left(other, left)

    def test_changing_places_of_more_than_4000_pairs(self):
        one = (entries(0, 4000, "x"), ())
        self.assertIs(can_change_places(one, (entries(4000, 4000, "x"), ())), True)
        self.assertIs(can_change_places(one, (entries(4000, 4000, "x"), ((NAMES[0], None),))), False)


class Left(unittest.TestCase):
    def test_by_hand(self):
        form = ((("n", None),), (("m", None), ("n", "x")))
        self.assertEqual(table_left(form, (("m", "y"), ("o", "z"))), (("n", "x"), ("o", "z")))
        self.assertIsNone(table_left(form, (("n", "y"),)))
        self.assertIs(table_works(None, ()), False)
        self.assertIsNone(table_left(None, ()))

    def test_more_than_4000_pairs(self):
        full = entries(0, 4000, "x")
        more = NAMES[4000]
        self.assertEqual(raised(table_left, ((), ((more, "x"),)), full), TOO_MANY)
        self.assertEqual(table_left(((), ((NAMES[0], None), (more, "x"))), full), entries(1, 4000, "x"))
        self.assertIsNone(table_left((((NAMES[0], None),), ((more, "x"),)), full))

    def test_errors(self):
        for call in (table_works, table_left):
            for wrong in WRONG_FORMS:
                self.assertEqual(raised(call, wrong, None), ("NoForm", wrong))
            for wrong in WRONG_CONTENTS:
                self.assertEqual(raised(call, EMPTY, wrong), ("NoContents", wrong))
                self.assertEqual(raised(call, None, wrong), ("NoContents", wrong))


class ToldRows(unittest.TestCase):
    def test_told_rows_have_the_form_and_no_row_has_fewer_steps(self):
        for row in SMALL_ROWS:
            form = table_form(row)
            if form is not None:
                self.assertEqual(table_form(table_row(form)), form)
                self.assertLessEqual(len(table_row(form)), len(row))
        for form in small_forms()[1:]:
            self.assertEqual(table_form(table_row(form)), form)

    def test_by_hand(self):
        form = ((("m", "x"), ("n", None)), (("m", None), ("n", "y"), ("o", "z")))
        self.assertEqual(table_row(form), (("expect", "m", "x"), ("absent", "n"), ("clear", "m"), ("set", "n", "y"),
                                           ("set", "o", "z")))
        self.assertEqual(table_row(EMPTY), ())

    def test_60_and_61_steps(self):
        form = (entries(0, 30, None), entries(0, 30, "x"))
        self.assertEqual(table_form(table_row(form)), form)
        self.assertEqual(raised(table_row, (entries(0, 30, None), entries(0, 31, "x"))), ("TooMany", 60))
        for many in (0, 9, 60):
            told = table_row((entries(0, many, None), entries(0, 60 - many, "x")))
            self.assertEqual([step[0] for step in told], ["absent"] * many + ["set"] * (60 - many))
            self.assertEqual(raised(table_row, (entries(0, many, None), entries(0, 61 - many, "x"))), ("TooMany", 60))

    def test_errors(self):
        for wrong in (*WRONG_FORMS, None):
            self.assertEqual(raised(table_row, wrong), ("NoForm", wrong))


if __name__ == "__main__":
    unittest.main()
