"""Promise [7], and [0.2] (a) and (b) of tapes: forms, what is known, needed, met, agreed, clashes."""

import unittest
from itertools import product

from boxeffects.boxes import left_by_row
from boxeffects.kinds import under_head
from boxeffects.tapes import (
    accepts_clash,
    is_tape_form,
    tape_clash,
    tape_form,
    tape_known,
    tape_left,
    tape_needs,
    tape_then,
    tape_works,
    tapes_agree,
    tapes_meet,
)
from small import ODD, TAPE_STEPS, TOO_MANY, raised, rows, tapes

TAPE = ("tape",)
EMPTY = (0, (), ())
WRONG_ROWS = (None, [("left",)], ("left",), (("left", 1),), (("left",),) * 61, (("write", True),), (("put", "a"),))
WRONG_FORMS = ((), (0, ()), (0, (), (), ()), [0, (), ()], (True, (), ()), (False, (), ()), (None, (), ()), ("a", (), ()),
               (1.0, (), ()), (0, [], ()), (0, (), []), (0, ((0, "a"),), ((0, "a"),)), (0, ((1, "a"), (0, "a")), ()),
               (0, (), ((0, "a"), (0, "b"))), (0, ((True, "a"),), ()), (0, ((0, "A"),), ()), (0, ([0, "a"],), ()),
               (0, ((0,),), ()), (0, None, ()), (0, (), ((0, "a", "b"),)), 0, "abc", (0, (("a", 0),), ()),
               (0, tuple((k, "a") for k in range(4001)), ()), (0, (), tuple((k, "a") for k in range(4001))))
WRONG_CONTENTS = (None, (), [(), "a"], ((), "A"), ([], "a"), (((0, "a"),), "a"), (((1, "b"), (0, "b")), "a"), ((),))
WRONG_WANTED = (None, 0, "ab", (0, "a"), ((0, "a", "b"),), ([0, "a"],), ((True, "a"),), ((0, "A"),), ((0, "a"), (0, "a")),
                [(0, "a"), (1, "b"), (0, "b")], ((0,),), {0: "a"}, ((1.0, "a"),), (("a", 0),), ((0, None),), (None,))
# All steps on up to three places, and their contents.
SMALL_ROWS = rows(TAPE_STEPS, 3)
SMALL_TAPES = tapes((-2, -1, 0, 1, 2), ("a", "b"))
SHORT_TAPES = tapes((-1, 0, 1), ("a", "b", "c"))


def many_pairs(begin, many, letter):
    return tuple((place, letter) for place in range(begin, begin + many))


def small_forms():
    """Forms at the places 0 and 1, with two letters; and None."""
    kept = [((), ()), (((0, "a"),), ()), ((), ((0, "a"),)), (((0, "b"),), ((0, "a"),)), (((0, "a"), (1, "b")), ()),
            (((1, "a"),), ((0, "b"),)), ((), ((0, "b"), (1, "b"))), (((0, "a"),), ((0, "b"), (1, "a")))]
    return [None] + [(s, *both) for s in (-1, 0, 1) for both in kept]


class Forms(unittest.TestCase):
    def test_the_example(self):
        row = (("write", "a"), ("right",), ("expect", "b"), ("left",), ("expect", "a"))
        form = (0, ((1, "b"),), ((0, "a"),))
        self.assertEqual(tape_form(row), form)
        self.assertEqual(tape_known(form), ((0, "a"), (1, "b")))
        self.assertIsNone(tape_form((("write", "a"), ("expect", "b"))))
        self.assertEqual(tape_clash((("write", "a"), ("expect", "b"))), (0, 1))
        self.assertEqual(tape_needs((1, ((0, "c"),), ()), ((0, "b"),)), ((0, "c"), (1, "b")))

    def test_by_hand(self):
        self.assertEqual(tape_form(()), EMPTY)
        self.assertEqual(tape_form((("left",), ("left",))), (-2, (), ()))
        self.assertEqual(tape_form((("expect", "a"), ("write", "b"), ("write", "a"))), (0, ((0, "a"),), ()))
        self.assertEqual(tape_form((("expect", "a"), ("write", "b"))), (0, ((0, "a"),), ((0, "b"),)))
        self.assertEqual(tape_form((("write", "b"), ("write", "a"), ("right",), ("write", "c"))),
                         (1, (), ((0, "a"), (1, "c"))))
        self.assertEqual(tape_form((("write", "b"), ("expect", "b"))), (0, (), ((0, "b"),)))

    def test_letters_that_are_called_as_steps(self):
        row = (("write", "left"), ("expect", "left"), ("right",), ("expect", "left"), ("expect", "put"))
        self.assertEqual(tape_form(row[:4]), (1, ((1, "left"),), ((0, "left"),)))
        self.assertEqual(tape_clash(row), (3, 4))

    def test_forms_do_what_the_steps_do(self):
        for row in SMALL_ROWS:
            form = tape_form(row)
            self.assertTrue(is_tape_form(form))
            for contents in SMALL_TAPES:
                left = left_by_row(TAPE, row, contents)
                self.assertIs(tape_works(form, contents), left is not None)
                self.assertEqual(tape_left(form, contents), left)

    def test_alike_just_if_the_forms_are_equal(self):
        effects = {}
        contents = tapes((-2, -1, 0, 1, 2), ("a", "b"))
        for row in SMALL_ROWS:
            effect = tuple(left_by_row(TAPE, row, tape) for tape in contents)
            self.assertEqual(effects.setdefault(effect, tape_form(row)), tape_form(row))
        self.assertEqual(len(set(effects.values())), len(effects))

    def test_is_tape_form(self):
        long = many_pairs(0, 4000, "a")
        for form in (None, EMPTY, (10 ** 100, (), ()), (-5, long, many_pairs(0, 4000, "b")),
                     (0, ((0, "a"),), ((0, "b"),)), (0, ((-1, "a"),), ((0, "a"),))):
            self.assertIs(is_tape_form(form), True)
        for value in (*WRONG_FORMS, *ODD):
            self.assertIs(is_tape_form(value), False)


class Then(unittest.TestCase):
    def test_form_of_both_rows(self):
        for one in rows(TAPE_STEPS, 2):
            for other in SMALL_ROWS:
                self.assertEqual(tape_then(tape_form(one), tape_form(other)), tape_form(one + other))
                self.assertEqual(tape_then(tape_form(other), tape_form(one)), tape_form(other + one))

    def test_both_bracketings(self):
        forms = small_forms()
        for one, other in product(forms, repeat=2):
            both = tape_then(one, other)
            for third in forms:
                self.assertEqual(tape_then(both, third), tape_then(one, tape_then(other, third)))

    def test_more_than_4000_pairs(self):
        full = (0, many_pairs(0, 4000, "a"), ())
        laid = (0, (), many_pairs(0, 4000, "a"))
        self.assertEqual(tape_then(full, full), full)
        self.assertEqual(tape_then(full, laid), full)
        self.assertEqual(tape_then(laid, full), laid)
        self.assertEqual(raised(tape_then, full, (0, ((4000, "a"),), ())), TOO_MANY)
        self.assertEqual(raised(tape_then, laid, (0, (), ((-1, "a"),))), TOO_MANY)
        self.assertEqual(raised(tape_then, (4000, *full[1:]), (0, ((0, "a"),), ())), TOO_MANY)
        self.assertIsNone(tape_then(full, (0, ((0, "b"), (4000, "a")), ())))
        self.assertIsNone(tape_then(full, None))
        # Expected and written are counted one by one.
        self.assertEqual(len(tape_then(full, (1, (), many_pairs(4000, 4000, "b")))[2]), 4000)

    def test_errors(self):
        for wrong in WRONG_FORMS:
            for call in (tape_then, tapes_meet, tapes_agree):
                self.assertEqual(raised(call, wrong, "other"), ("NoForm", wrong))
                self.assertEqual(raised(call, None, wrong), ("NoForm", wrong))


class Left(unittest.TestCase):
    def test_nowhere(self):
        self.assertIs(tape_works(None, ((), "a")), False)
        self.assertIsNone(tape_left(None, ((), "a")))

    def test_no_pair_where_the_rest_lies(self):
        self.assertEqual(tape_left((1, ((0, "b"),), ((0, "a"), (5, "a"), (7, "c"))), (((0, "b"), (9, "b")), "a")),
                         (((6, "c"), (8, "b")), "a"))

    def test_more_than_4000_pairs(self):
        contents = (many_pairs(1, 4000, "b"), "a")
        self.assertEqual(raised(tape_left, (0, (), ((0, "b"),)), contents), TOO_MANY)
        self.assertEqual(tape_left((0, (), ((0, "a"),)), contents), contents)
        self.assertEqual(tape_left((0, (), ((0, "b"), (1, "a"))), contents)[0][:2], ((0, "b"), (2, "b")))
        self.assertIsNone(tape_left((0, ((0, "b"),), ((0, "c"),)), contents))

    def test_errors(self):
        for call in (tape_works, tape_left):
            for wrong in WRONG_FORMS:
                self.assertEqual(raised(call, wrong, None), ("NoForm", wrong))
            for wrong in WRONG_CONTENTS:
                self.assertEqual(raised(call, EMPTY, wrong), ("NoContents", wrong))
                self.assertEqual(raised(call, None, wrong), ("NoContents", wrong))
        for wrong in WRONG_ROWS:
            self.assertEqual(raised(tape_form, wrong), ("NoRow", wrong))


class KnownAndNeeded(unittest.TestCase):
    def test_known_letters_lie_there_and_elsewhere_any_can(self):
        for form in small_forms():
            if form is None:
                self.assertIsNone(tape_known(form))
                continue
            left = [tape_left(form, contents) for contents in SHORT_TAPES if tape_works(form, contents)]
            known = {}
            for place in range(-2, 3):
                lying = set(under_head(contents, place) for contents in left)
                if len(lying) == 1:
                    known[place] = lying.pop()
                else:
                    self.assertEqual(lying, {"a", "b", "c"})
            self.assertEqual(tape_known(form), tuple(sorted(known.items())))

    def test_needs_are_just_what_is_lacking(self):
        for form in small_forms():
            for places in ((), (0,), (-1, 1), (1, 0)):
                for letters in product("ab", repeat=len(places)):
                    self.check_needs(form, tuple(zip(places, letters)))

    def check_needs(self, form, wanted):
        needs = tape_needs(form, wanted)
        self.assertEqual(tape_needs(form, list(wanted)), needs)
        good = [
            contents for contents in SHORT_TAPES
            if tape_works(form, contents)
            and all(under_head(tape_left(form, contents), place) == letter for place, letter in wanted)
        ]
        if needs is None:
            self.assertEqual(good, [])
            return
        self.assertEqual(needs, tuple(sorted(needs)))
        fitting = [tape for tape in SHORT_TAPES if all(under_head(tape, place) == letter for place, letter in needs)]
        self.assertEqual(good, fitting)

    def test_by_hand(self):
        form = (1, ((0, "c"),), ((0, "b"), (3, "a")))
        self.assertEqual(tape_known(form), ((-1, "b"), (2, "a")))
        self.assertEqual(tape_needs(form, [(2, "a"), (-1, "b"), (7, "z"), (5, "y")]), ((0, "c"), (6, "y"), (8, "z")))
        self.assertIsNone(tape_needs(form, [(2, "b")]))
        self.assertIsNone(tape_needs(form, [(-1, "c")]))
        self.assertEqual(tape_needs(form, ()), ((0, "c"),))

    def test_more_than_4000_pairs(self):
        form = (0, many_pairs(0, 4000, "a"), many_pairs(4000, 4000, "a"))
        self.assertEqual(len(tape_known(form)), 8000)
        self.assertEqual(tape_needs(form, [(5000, "a")]), form[1])
        self.assertEqual(raised(tape_needs, form, [(-1, "a")]), TOO_MANY)
        self.assertIsNone(tape_needs(form, [(-1, "a"), (0, "b")]))
        self.assertIsNone(tape_needs(form, [(5000, "b"), (-1, "a")]))
        self.assertEqual(raised(tape_needs, EMPTY, many_pairs(0, 4001, "a")), TOO_MANY)
        self.assertEqual(tape_needs(EMPTY, many_pairs(0, 4000, "a")), many_pairs(0, 4000, "a"))

    def test_errors(self):
        for wrong in WRONG_FORMS:
            self.assertEqual(raised(tape_known, wrong), ("NoForm", wrong))
            self.assertEqual(raised(tape_needs, wrong, None), ("NoForm", wrong))
        for wrong in WRONG_WANTED:
            self.assertEqual(raised(tape_needs, EMPTY, wrong), ("NoPlace", wrong))
            self.assertEqual(raised(tape_needs, None, wrong), ("NoPlace", wrong))
        self.assertIsNone(tape_needs(None, ()))


class MeetAndAgree(unittest.TestCase):
    def test_beside_all_small_contents(self):
        forms = small_forms()
        for one, other in product(forms, repeat=2):
            both = [tape for tape in SHORT_TAPES if tape_works(one, tape) and tape_works(other, tape)]
            met = tapes_meet(one, other)
            if met is None:
                self.assertEqual(both, [])
            else:
                self.assertEqual(
                    both, [tape for tape in SHORT_TAPES if all(under_head(tape, at) == letter for at, letter in met)])
            alike = all(tape_left(one, tape) == tape_left(other, tape) for tape in both)
            self.assertIs(tapes_agree(one, other), alike, (one, other))

    def test_by_hand(self):
        one = (0, ((0, "a"),), ((0, "b"),))
        self.assertEqual(tapes_meet(one, (3, ((-1, "c"), (0, "a")), ())), ((-1, "c"), (0, "a")))
        self.assertIsNone(tapes_meet(one, (0, ((0, "b"),), ())))
        self.assertIsNone(tapes_meet(None, one))
        self.assertIsNone(tapes_meet(one, None))
        self.assertIs(tapes_agree(None, one), True)
        self.assertIs(tapes_agree(one, None), True)
        self.assertIs(tapes_agree(one, (0, ((0, "b"),), ())), True)
        self.assertIs(tapes_agree(one, (0, (), ((0, "b"),))), True)
        self.assertIs(tapes_agree(one, (1, (), ((0, "b"),))), False)
        self.assertIs(tapes_agree(one, EMPTY), False)
        # What the other one expects is written by the first one: nothing is changed.
        self.assertIs(tapes_agree((0, (), ((1, "c"),)), (0, ((1, "c"),), ())), True)
        self.assertIs(tapes_agree((0, (), ((1, "c"),)), EMPTY), False)

    def test_more_than_4000_pairs(self):
        one = (0, many_pairs(0, 4000, "a"), ())
        other = (0, many_pairs(4000, 4000, "a"), ())
        self.assertEqual(tapes_meet(one, other), many_pairs(0, 8000, "a"))
        self.assertIs(tapes_agree(one, other), True)
        self.assertIs(tapes_agree(one, (0, many_pairs(3999, 4000, "b"), ((0, "c"),))), True)


class Clashes(unittest.TestCase):
    def clashes(self, row):
        """All clashes, straight by their definition."""
        places = [row[:index].count(("right",)) - row[:index].count(("left",)) for index in range(len(row))]
        told = []
        for j, i in product(range(len(row)), repeat=2):
            if i < j and row[j][0] == "expect" and row[i][0] in ("write", "expect") and places[i] == places[j]:
                between = [k for k in range(i + 1, j) if row[k][0] == "write" and places[k] == places[j]]
                if row[i][1] != row[j][1] and not between:
                    told.append((i, j))
        return told

    def test_small_rows(self):
        for row in (*SMALL_ROWS, *rows((("write", "a"), ("write", "b"), ("expect", "a"), ("expect", "b")), 5)):
            clashes = self.clashes(row)
            self.assertEqual(tape_form(row) is None, bool(clashes))
            told = min(clashes, key=lambda clash: (clash[1], -clash[0])) if clashes else None
            self.assertEqual(tape_clash(row), told)
            for i, j in product(range(-1, len(row) + 1), repeat=2):
                self.assertIs(accepts_clash(row, (i, j)), (i, j) in clashes)

    def test_greatest_first_step_of_the_least_second_one(self):
        row = (("expect", "a"), ("expect", "b"), ("expect", "c"))
        self.assertEqual(tape_clash(row), (0, 1))
        row = (("expect", "a"), ("right",), ("left",), ("expect", "a"), ("expect", "b"))
        self.assertEqual(tape_clash(row), (3, 4))
        self.assertIs(accepts_clash(row, (0, 4)), True)
        row = (("write", "a"), ("write", "b"), ("expect", "b"), ("expect", "a"))
        self.assertEqual(tape_clash(row), (2, 3))
        self.assertIs(accepts_clash(row, (1, 3)), True)
        self.assertIs(accepts_clash(row, (0, 2)), False)

    def test_any_value(self):
        row = (("write", "a"), ("expect", "b"))
        self.assertIs(accepts_clash(row, (0, 1)), True)
        for value in (*ODD, None, (), (False, True), (0, True), (False, 1), [0, 1], (0, 1, 1), (0,), (1, 0), (0.0, 1),
                      ((0, 1),), "01", (0, 10 ** 40)):
            self.assertIs(accepts_clash(row, value), False)

    def test_errors(self):
        for wrong in WRONG_ROWS:
            self.assertEqual(raised(tape_clash, wrong), ("NoRow", wrong))
            self.assertEqual(raised(accepts_clash, wrong, None), ("NoRow", wrong))


if __name__ == "__main__":
    unittest.main()
