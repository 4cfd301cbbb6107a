"""Promise [6], and [0.2] (a) and (b) of rings: forms, walks, spilt puts, least rings."""

import unittest
from itertools import combinations, product

from boxeffects.boxes import left_by_row
from boxeffects.rings import (
    is_ring_form,
    is_walk,
    least_ring,
    ring_by_walk,
    ring_form,
    ring_left,
    ring_then,
    ring_works,
    row_by_walk,
    spilt_by,
    walk_of,
    walk_then,
)
from small import ODD, RING_STEPS, TOO_MANY, raised, rows

MODES = ("drop", "ignore", "fail")
TAKE = ("take",)
# Rows of more steps than a ring has letters, up and down again.
LONG_ROWS = (
    (("put", "a"),) * 15,
    (("put", "a"), ("put", "b"), TAKE) * 6,
    (TAKE,) * 5 + (("put", "a"), ("put", "b")) * 10 + (TAKE,) * 8 + (("put", "c"),) * 3,
    (("put", "a"),) * 4 + (TAKE, ("put", "b"), ("put", "c")) * 12 + (TAKE, TAKE, ("put", "d")) * 4,
    (TAKE,) * 12,
    (TAKE,) * 13,
    (("put", "a"),) * 12 + (TAKE,) * 13,
    (TAKE, ("put", "a")) * 30,
    (("put", "a"), TAKE) * 30,
)
WRONG_KINDS = (None, ("stack",), ("ring", 0, "drop"), ("ring", 13, "drop"), ("ring", 2, "stop"), ["ring", 2, "drop"],
               ("ring", True, "drop"), ("gauge", 2, "fail"), "ring", ("ring", 2))
WRONG_ROWS = (None, [TAKE], TAKE, (("take", "a"),), (("put",),), (("put", "a"),) * 61, (("put", True),))
WRONG_FORMS = (  # of a ring of two letters
    (), (None, None), (None, None, None), [None, None, (0, ())], (None, None, None, (0, ())), ((1, ()), None, None),
    (None, (2, ()), None), (None, (-1, ()), None), (None, (True, ()), None), ((False, ()), None, None),
    (None, None, (2, ("a",))), (None, None, (0, ("a",) * 3)), (None, None, (1, ("a", "b"))), (None, None, [0, ()]),
    (None, None, (0, [])), (None, None, (0, ("A",))), (None, None, (0,)), (None, None, (0, (), ())), 0, "abc",
    (None, None, (0, None)), (None, None, 0),
)
WALK = (("a", "b"), 1, (0, 1), 0, 1)
WRONG_WALKS = (None, (), ((), 0, (), 0), ((), 0, (), 0, 0, 0), [(), 0, (), 0, 0], ([], 0, (), 0, 0), ((), 0, [], 0, 0),
               ((), False, (), 0, 0), ((), 0, (), False, 0), ((), 0, (), 0, False), ((), -1, (), 0, 0),
               ((), 0, (), -1, 0), ((), 0, (), 0, -1), ((), 0, (0,), 0, 0), (("a",), 0, (), 0, 0),
               (("a",), 0, (1,), 0, 0), (("a",), 0, (-1,), 0, 0), (("a",), 0, (False,), 0, 0), (("A",), 0, (0,), 0, 0),
               (("a",), 1, (0,), 0, 0), (("a",), 1, (), 0, 0), (("a",), 1, (), 1, 2), ((), 2, (), 2, 1),
               ((), 2, (), 1, 2), ((), 2, (), 1, 1), (("a", "b"), 0, (1, 0), 0, 0), (("a", "b"), 0, (0, 0), 0, 0),
               (("a", "b"), 0, (0, None), 0, 0), (("a", "b"), 0, "ab", 0, 0), (("a",), "b", (0,), 0, 0),
               (("a",) * 4001, 0, tuple(range(4001)), 0, 0), (("a",), 0, (0,), 0, None), (("a", "b"), 1, (0,), 0, 0))


def contents_of(length):
    """A contents of unlike letters, so that it shows which of them are left."""
    return tuple("pqrstuvwxyzo"[:length])


def kinds(capacities):
    return [("ring", capacity, mode) for capacity in capacities for mode in MODES]


def form_by_steps(kind, row):
    """The form of a row, straight by what it leaves of contents of unlike letters."""
    items = []
    for length in range(kind[1] + 1):
        left = left_by_row(kind, row, contents_of(length))
        if left is not None:
            kept = len([letter for letter in left if letter in contents_of(12)])
            assert left[:kept] == contents_of(length)[length - kept:]
            left = (kept, left[kept:])
        items.append(left)
    return tuple(items) if any(items) else None


def walk_by_sums(row):
    """The walk of a row, straight by its sums."""
    sums = [0]
    for step in row:
        sums.append(sums[-1] + (1 if step[0] == "put" else -1))
    puts = [index for index, step in enumerate(row) if step[0] == "put"]
    records = [number for number, index in enumerate(puts) if sums[index + 1] > max(sums[:index + 1])]
    fall = max([sums[i] - sums[j] for j in range(len(sums)) for i in range(j + 1)])
    word = tuple(row[index][1] for index in puts)
    return word, len(row) - len(word), tuple(records), -min(sums), fall


class Forms(unittest.TestCase):
    def test_the_example(self):
        row = (TAKE, ("put", "a"), ("put", "b"))
        self.assertEqual(walk_of(row), (("a", "b"), 1, (1,), 1, 1))
        self.assertEqual(ring_form(("ring", 2, "drop"), row), (None, (0, ("a", "b")), (0, ("a", "b"))))
        self.assertEqual(ring_form(("ring", 2, "ignore"), row), (None, (0, ("a", "b")), (1, ("a",))))
        self.assertEqual(ring_form(("ring", 2, "fail"), row), (None, (0, ("a", "b")), None))

    def test_letters_that_are_called_as_steps(self):
        row = (("put", "take"), ("put", "put"), TAKE)
        self.assertEqual(walk_of(row), (("take", "put"), 1, (0, 1), 0, 1))
        self.assertEqual(ring_form(("ring", 2, "fail"), row), ((0, ("put",)), None, None))
        self.assertEqual(spilt_by(("ring", 2, "drop"), row, 1), 1)
        self.assertEqual(row_by_walk(walk_of(row)), row)

    def test_small_rows_on_small_rings(self):
        for kind in kinds((1, 2, 3)):
            for row in rows(RING_STEPS, 5):
                self.check_row(kind, row)

    def test_long_rows_on_all_rings(self):
        for kind in kinds(range(1, 13)):
            for row in LONG_ROWS:
                self.check_row(kind, row)

    def check_row(self, kind, row):
        form = form_by_steps(kind, row)
        self.assertEqual(ring_form(kind, row), form, (kind, row))
        self.assertEqual(ring_by_walk(kind, walk_of(row)), form, (kind, row))
        self.assertIs(is_ring_form(kind, form), True)
        for length in range(kind[1] + 1):
            contents = contents_of(length)
            left = left_by_row(kind, row, contents)
            self.assertIs(ring_works(kind, form, contents), left is not None)
            self.assertEqual(ring_left(kind, form, contents), left)
            self.assertEqual(spilt_by(kind, row, length), self.spilt(kind, row, contents))

    def spilt(self, kind, row, contents):
        """How many puts are done on a full ring, step by step."""
        full = 0
        for step in row:
            full += step[0] == "put" and len(contents) == kind[1]
            contents = left_by_row(kind, (step,), contents)
            if contents is None:
                return None
        return full

    def test_nowhere(self):
        self.assertIsNone(ring_form(("ring", 2, "drop"), (TAKE,) * 3))
        self.assertIsNone(ring_form(("ring", 2, "fail"), (("put", "a"),) * 3))
        self.assertIs(ring_works(("ring", 2, "drop"), None, ()), False)
        self.assertIsNone(ring_left(("ring", 2, "drop"), None, ("a",)))

    def test_joined(self):
        for kind in kinds((1, 2)):
            for one in rows(RING_STEPS, 3):
                for other in rows(RING_STEPS, 3):
                    both = ring_then(kind, ring_form(kind, one), ring_form(kind, other))
                    self.assertEqual(both, ring_form(kind, one + other))

    def test_both_bracketings(self):
        items = [None, (0, ()), (0, ("a",)), (1, ()), (1, ("b",)), (2, ())]
        for kind in kinds((2,)):
            forms = [form for form in product(items, repeat=3) if is_ring_form(kind, form)][::5] + [None]
            for one, other in product(forms, repeat=2):
                both = ring_then(kind, one, other)
                for third in forms:
                    self.assertEqual(ring_then(kind, both, third), ring_then(kind, one, ring_then(kind, other, third)))

    def test_is_ring_form(self):
        kind = ("ring", 2, "fail")
        for form in (None, ((0, ()), (1, ()), (2, ())), ((0, ("a", "b")), None, None), (None, None, (1, ("zzzz",)))):
            self.assertIs(is_ring_form(kind, form), True)
        for value in (*WRONG_FORMS, *ODD):
            self.assertIs(is_ring_form(kind, value), False, value)
        # As many items as lengths.
        self.assertIs(is_ring_form(("ring", 12, "drop"), ((0, ()),) * 13), True)
        self.assertIs(is_ring_form(("ring", 12, "drop"), ((0, ()),) * 12), False)
        self.assertIs(is_ring_form(("ring", 12, "drop"), (None,) * 12 + ((11, ("a",)),)), True)
        self.assertIs(is_ring_form(("ring", 12, "drop"), (None,) * 12 + ((12, ("a",)),)), False)


class Walks(unittest.TestCase):
    def test_walks_of_small_and_long_rows(self):
        for row in (*rows(RING_STEPS, 5), *rows((("put", "a"), TAKE), 9), *LONG_ROWS):
            self.assertEqual(walk_of(row), walk_by_sums(row))

    def test_joined_walks(self):
        for one in rows(RING_STEPS, 3):
            for other in rows((("put", "c"), TAKE), 5):
                self.assertEqual(walk_then(walk_of(one), walk_of(other)), walk_of(one + other))
                self.assertEqual(walk_then(walk_of(other), walk_of(one)), walk_of(other + one))

    def test_joined_in_both_bracketings(self):
        walks = [walk_of(row) for row in rows((("put", "a"), TAKE), 4)]
        for one, other, third in product(walks[::2], repeat=3):
            self.assertEqual(walk_then(walk_then(one, other), third), walk_then(one, walk_then(other, third)))

    def test_is_walk_just_of_walks(self):
        # All bent values with a few puts and takes, beside the walks of all rows of so many.
        for puts, takes in product(range(5), range(5)):
            word = tuple("abcde"[:puts])
            walks = set(walk_of(row) for row in self.orders(word, takes))
            found = [
                value for value in self.values(word, takes)
                if is_walk(value)
            ]
            self.assertEqual(set(found), walks, (puts, takes))

    def values(self, word, takes):
        places = [chosen for many in range(len(word) + 1) for chosen in combinations(range(len(word)), many)]
        return [(word, takes, records, depth, fall) for records in places for depth in range(6) for fall in range(6)]

    def orders(self, word, takes):
        """All rows with the puts of a word, in order, and so many takes."""
        many = len(word) + takes
        told = []
        for places in combinations(range(many), takes):
            puts = iter(word)
            told.append(tuple(TAKE if place in places else ("put", next(puts)) for place in range(many)))
        return told

    def test_row_by_walk_beside_all_orders(self):
        for puts, takes in product(range(6), range(6)):
            word = tuple("abcdef"[:puts])
            least = {}
            # The orders come with the earliest takes first.
            for row in self.orders(word, takes):
                least.setdefault(walk_of(row), row)
            for walk, row in least.items():
                self.assertEqual(row_by_walk(walk), row, walk)

    def test_row_by_walk_of_long_rows(self):
        for row in LONG_ROWS:
            told = row_by_walk(walk_of(row))
            self.assertEqual(walk_of(told), walk_of(row))
            self.assertLessEqual([step[0] == "put" for step in told], [step[0] == "put" for step in row])

    def test_walks_of_more_steps_than_a_row_has(self):
        long = (("a",) * 4000, 0, tuple(range(4000)), 0, 0)
        self.assertIs(is_walk(long), True)
        self.assertIs(is_walk(((), 10 ** 100, (), 10 ** 100, 10 ** 100)), True)
        self.assertIs(is_walk(((), 10 ** 100, (), 10 ** 100, 10 ** 100 - 1)), False)
        self.assertEqual(ring_by_walk(("ring", 2, "drop"), long), ((0, ("a", "a")),) * 3)
        self.assertIsNone(ring_by_walk(("ring", 2, "fail"), long))
        ignored = ((0, ("a", "a")), (1, ("a",)), (2, ()))
        self.assertEqual(ring_by_walk(("ring", 2, "ignore"), long), ignored)
        self.assertEqual(walk_then(long, ((), 5, (), 5, 5)), (("a",) * 4000, 5, tuple(range(4000)), 0, 5))
        self.assertEqual(raised(walk_then, long, (("a",), 0, (0,), 0, 0)), TOO_MANY)
        self.assertEqual(raised(row_by_walk, ((), 61, (), 61, 61)), ("TooMany", 60))
        self.assertEqual(raised(row_by_walk, (("a",) * 31, 30, (30,), 1, 1)), ("TooMany", 60))
        self.assertEqual(row_by_walk(((), 60, (), 60, 60)), (TAKE,) * 60)

    def test_any_value(self):
        self.assertIs(is_walk(WALK), True)
        for value in (*WRONG_WALKS, *ODD):
            self.assertIs(is_walk(value), False, value)


class LeastRings(unittest.TestCase):
    def test_beside_the_steps(self):
        for row in (*rows((("put", "a"), TAKE), 6), *LONG_ROWS):
            records, depth = walk_of(row)[2:4]
            for length in range(13):
                least = least_ring(row, length)
                borne = [
                    capacity for capacity in range(max(length, 1), 13)
                    if left_by_row(("ring", capacity, "fail"), row, contents_of(length)) is not None
                ]
                if borne:
                    self.assertEqual(least, borne[0])
                elif length < depth:
                    self.assertIsNone(least)
                else:
                    self.assertEqual(least, length + len(records))
                    self.assertGreater(least, 12)

    def test_by_hand(self):
        self.assertEqual(least_ring((), 0), 1)
        self.assertEqual(least_ring((), 12), 12)
        self.assertEqual(least_ring((TAKE,), 0), None)
        self.assertEqual(least_ring((("put", "a"),) * 60, 12), 72)


class Errors(unittest.TestCase):
    def test_no_kind_ahead_of_all(self):
        for wrong in WRONG_KINDS:
            for call in (ring_form, is_ring_form, ring_by_walk):
                self.assertEqual(raised(call, wrong, object()), ("NoKind", wrong))
            for call in (ring_then, ring_works, ring_left, spilt_by):
                self.assertEqual(raised(call, wrong, object(), object()), ("NoKind", wrong))

    def test_no_row(self):
        kind = ("ring", 2, "drop")
        for wrong in WRONG_ROWS:
            self.assertEqual(raised(ring_form, kind, wrong), ("NoRow", wrong))
            self.assertEqual(raised(walk_of, wrong), ("NoRow", wrong))
            self.assertEqual(raised(spilt_by, kind, wrong, None), ("NoRow", wrong))
            self.assertEqual(raised(least_ring, wrong, None), ("NoRow", wrong))

    def test_no_form_then_no_contents(self):
        kind = ("ring", 2, "drop")
        for wrong in WRONG_FORMS:
            self.assertEqual(raised(ring_then, kind, wrong, "other"), ("NoForm", wrong))
            self.assertEqual(raised(ring_then, kind, None, wrong), ("NoForm", wrong))
            self.assertEqual(raised(ring_works, kind, wrong, None), ("NoForm", wrong))
            self.assertEqual(raised(ring_left, kind, wrong, None), ("NoForm", wrong))
        for wrong in (None, ["a"], ("a",) * 3, ("A",), "ab"):
            self.assertEqual(raised(ring_works, kind, None, wrong), ("NoContents", wrong))
            self.assertEqual(raised(ring_left, kind, None, wrong), ("NoContents", wrong))

    def test_no_walk(self):
        for wrong in WRONG_WALKS:
            self.assertEqual(raised(walk_then, wrong, None), ("NoForm", wrong))
            self.assertEqual(raised(walk_then, WALK, wrong), ("NoForm", wrong))
            self.assertEqual(raised(row_by_walk, wrong), ("NoForm", wrong))
            self.assertEqual(raised(ring_by_walk, ("ring", 2, "drop"), wrong), ("NoForm", wrong))

    def test_no_count(self):
        for wrong in (None, True, False, -1, 13, 1.0, "a", [0]):
            self.assertEqual(raised(least_ring, (), wrong), ("NoCount", wrong))
            self.assertEqual(raised(spilt_by, ("ring", 12, "drop"), (), wrong), ("NoCount", wrong))
        self.assertEqual(raised(spilt_by, ("ring", 2, "fail"), (), 3), ("NoCount", 3))
        self.assertEqual(spilt_by(("ring", 2, "fail"), (), 2), 0)


if __name__ == "__main__":
    unittest.main()
