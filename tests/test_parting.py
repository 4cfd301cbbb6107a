"""Promise [17], contents of one kind: fresh letters, trials, partings, papers, keys."""

import random
import unittest
from itertools import combinations, product

from boxeffects.boxes import left_by_row
from boxeffects.forms import form_of, rows_alike
from boxeffects.kinds import measured
from boxeffects.parting import (
    accepts_part,
    does_part,
    fresh_letters,
    part_paper,
    told_key,
    told_parting,
    trials_for,
)
from small import ALL_KINDS, KIND_STEPS, LEAST, ODD, SOME_CONTENTS, WRONG_KINDS, Everything, inserts, raised, small_rows

STACK, QUEUE, TAPE, HEAP, TABLE = ("stack",), ("queue",), ("tape",), ("heap",), ("table",)
DROP, STOP, FAIL = ("ring", 3, "drop"), ("gauge", 9, "stop"), ("gauge", 9, "fail")
PUSH, POP = ("push", "a"), ("pop", "a")
CALLS = (does_part, trials_for, told_parting, part_paper, accepts_part)


def pairs_of_rows(seed, many, most):
    """So many triples of a kind and two rows of it, often nearly the same."""
    draw = random.Random(seed)
    for kind in ALL_KINDS:
        steps = KIND_STEPS[kind[0]]
        for _ in range(many):
            one = [draw.choice(steps) for _ in range(draw.randint(0, most))]
            other = [draw.choice(steps) for _ in range(draw.randint(0, most))]
            if draw.random() < 0.5:
                other = list(one)
                other.insert(draw.randint(0, len(one)), draw.choice(steps))
            yield kind, tuple(one), tuple(other)


class Fresh(unittest.TestCase):
    def test_by_length_then_ascending(self):
        self.assertEqual(fresh_letters([], 0), ())
        self.assertEqual(fresh_letters([], 3), ("a", "b", "c"))
        self.assertEqual(fresh_letters([(PUSH, ("pop", "c"))], 3), ("b", "d", "e"))
        self.assertEqual(fresh_letters(((("put", "b"),), (), (("write", "a"), ("expect", "z"))), 25)[-3:], ("y", "aa", "ab"))
        self.assertEqual(fresh_letters([(("push", "aa"), ("pop", "zzzz"))], 28)[-3:], ("z", "ab", "ac"))
        self.assertEqual(len(fresh_letters([], 200)), 200)
        self.assertEqual(fresh_letters([], 200)[-1], "gr")

    def test_names_of_tables_are_no_letters(self):
        row = (("set", "a", "b"), ("clear", "c"), ("expect", "d", "e"), ("absent", "f"))
        self.assertEqual(fresh_letters([row], 5), ("a", "c", "d", "f", "g"))
        # The expect of a tape has a letter where that of a table has a name.
        self.assertEqual(fresh_letters([(("expect", "a"),)], 1), ("b",))

    def test_rows_of_any_kinds(self):
        rows = [(("insert", 5), LEAST), (("add", 999), ("sub", 1)), (("take",), ("put", "a")), (("left",), ("right",)), (("take", "b"),)]
        self.assertEqual(fresh_letters(rows, 2), ("c", "d"))
        self.assertEqual(fresh_letters(tuple(rows), 2), ("c", "d"))
        # Of no told length, and of several kinds at once.
        self.assertEqual(fresh_letters([(PUSH,) * 100 + (LEAST,)], 1), ("b",))

    def test_wrong_rows(self):
        for value in (None, "ab", {}, 1, (row for row in ()), {"a": ()}):
            self.assertEqual(raised(fresh_letters, value, None), ("NoRow", None))
        for row in ([PUSH], PUSH, (("push", "A"),), (("add", 1000),), (("insert", 1000),), (("insert", True),), (("draw", "a"),),
                    ((),), (None,), ("push",), (["push", "a"],), None, (Everything(),), "", *ODD):
            if row == () or isinstance(row, Everything):
                continue
            self.assertEqual(raised(fresh_letters, [(), (PUSH,), row, row], None), ("NoRow", 2))

    def test_wrong_numbers(self):
        for value in (-1, 201, None, "1", *ODD):
            self.assertEqual(raised(fresh_letters, [], value), ("NoCount", value))
        self.assertIsNone(raised(fresh_letters, [], 200))


class Trials(unittest.TestCase):
    def test_stacks(self):
        self.assertEqual(trials_for(STACK, (POP, POP), (("pop", "b"),)), [("b",), ("a", "a")])
        self.assertEqual(trials_for(STACK, (("pop", "b"),), (POP,)), [("a",), ("b",)])
        self.assertEqual(trials_for(STACK, (PUSH,), (PUSH, PUSH)), [()])
        self.assertEqual(trials_for(STACK, (PUSH, ("pop", "b")), (POP,)), [("a",)])
        self.assertEqual(trials_for(STACK, (PUSH, ("pop", "b")), (PUSH, ("pop", "c"))), [])

    def test_queues(self):
        one, other = (("take", "a"), ("take", "b")), (("take", "b"),)
        self.assertEqual(trials_for(QUEUE, one, other), [(), ("a",), ("b",), ("a", "b"), ("b", "c")])
        self.assertEqual(trials_for(QUEUE, (), (("put", "a"),)), [()])

    def test_rings(self):
        # Also of rows that are nowhere.
        row = (("put", "a"), ("put", "b"))
        self.assertEqual(trials_for(DROP, row, ()), [(), ("c",), ("c", "d"), ("c", "d", "e")])
        self.assertEqual(trials_for(("ring", 1, "fail"), row, row), [(), ("c",)])

    def test_gauges(self):
        self.assertEqual(trials_for(FAIL, (("add", 4),), ()), [0, 5, 6, 9])
        self.assertEqual(trials_for(FAIL, (("sub", 4),), (("add", 9), ("add", 1))), [4, 9])
        self.assertEqual(trials_for(FAIL, (("add", 9), ("add", 1)), (("add", 9), ("add", 2))), [])
        # (3, 3, 9) and (0, -2, 7): 0, 1, 9; 0, 6, 1, 7; 2, 9, 3, 10.
        self.assertEqual(trials_for(STOP, (("add", 3),), (("sub", 2),)), [0, 1, 2, 3, 6, 7, 9])
        self.assertEqual(trials_for(STOP, (("add", 9),), (("add", 9),)), [0, 1, 9])
        self.assertEqual(trials_for(("gauge", 1, "stop"), (), ()), [0, 1])

    def test_heaps(self):
        # No corners: great is 1, the number is 0.
        self.assertEqual(trials_for(HEAP, (), ()), [(), (0,)])
        self.assertEqual(trials_for(HEAP, (LEAST,), ()), [(), (0,), (1,), (0, 0)])
        # (1, ((None, -1, 0), (5, 0, 1))) and the empty row: great is 6, the numbers are 4 and 5.
        told = trials_for(HEAP, (LEAST,) + inserts(5), ())
        self.assertEqual(told, [(), (4,), (5,), (6,), (4, 4), (5, 5)])

    def test_heaps_by_definition(self):
        for kind, one, other in pairs_of_rows(41, 60, 6):
            if kind != HEAP:
                continue
            forms = [form_of(HEAP, one), form_of(HEAP, other)]
            numbers = [k for _, corners in forms for k, _, _ in corners[1:]]
            great = max(numbers, default=0) + 1
            wanted = {(great,) * d for d, _ in forms}
            for t in set(numbers) | {min(numbers, default=1) - 1}:
                for many in [0] + [[b - s + 1 for k, s, b in corners if k is None or k <= t][-1] for _, corners in forms]:
                    wanted.add((t,) * many + (great,) * (max(many, forms[0][0], forms[1][0]) - many))
            self.assertEqual(trials_for(HEAP, one, other), sorted(wanted, key=lambda trial: (len(trial), trial)))

    def test_tapes(self):
        one = (("expect", "x"), ("right",), ("right",), ("write", "y"))
        other = (("left",), ("expect", "b"))
        # Places from -1 to 2, and 3; fresh are a, c, d, e, ..: a is the rest.
        self.assertEqual(trials_for(TAPE, one, other), [
            (((-1, "c"), (0, "x"), (1, "e"), (2, "f"), (3, "g")), "a"), (((-1, "b"), (0, "d"), (1, "e"), (2, "f"), (3, "g")), "a")])
        self.assertEqual(trials_for(TAPE, (), (("right",),)), [(((0, "b"), (1, "c")), "a")])
        nowhere = (("write", "x"), ("expect", "y"))
        self.assertEqual(trials_for(TAPE, nowhere, (("right",), ("expect", "a"))), [(((1, "a"), (2, "d")), "b")])
        self.assertEqual(trials_for(TAPE, nowhere, nowhere), [])

    def test_tables(self):
        one = (("absent", "n"), ("expect", "m", "x"))
        other = (("set", "o", "y"), ("expect", "n", "z"))
        self.assertEqual(trials_for(TABLE, one, other), [(("m", "x"), ("o", "c")), (("m", "a"), ("n", "z"), ("o", "c"))])
        self.assertEqual(trials_for(TABLE, (), ()), [()])

    def test_each_once_and_as_told_of_its_kind(self):
        for kind, one, other in pairs_of_rows(42, 60, 6):
            told = trials_for(kind, one, other)
            self.assertEqual(len(set(told)), len(told))
            if kind[0] in ("stack", "queue", "heap"):
                self.assertEqual(told, sorted(told, key=lambda trial: (len(trial), trial)))
            elif kind[0] == "gauge":
                self.assertEqual(told, sorted(told))

    def test_rows_are_parted_just_if_their_forms_are_unlike(self):
        for kind, one, other in pairs_of_rows(43, 300, 7):
            parted = any(does_part(kind, one, other, trial) for trial in trials_for(kind, one, other))
            self.assertIs(parted, form_of(kind, one) != form_of(kind, other))

    def test_all_pairs_of_short_rows(self):
        for kind in ALL_KINDS:
            rows = small_rows(kind, 2)[::3]
            for one, other in product(rows, rows):
                parted = any(does_part(kind, one, other, trial) for trial in trials_for(kind, one, other))
                self.assertIs(parted, not rows_alike(kind, one, other))


class Parting(unittest.TestCase):
    def test_does_part_beside_the_rows(self):
        for kind, one, other in pairs_of_rows(44, 30, 4):
            for contents in SOME_CONTENTS[kind][::3]:
                parted = left_by_row(kind, one, contents) != left_by_row(kind, other, contents)
                self.assertIs(does_part(kind, one, other, contents), parted)

    def test_of_any_size(self):
        word = ("a",) * 4000
        self.assertIs(does_part(STACK, (PUSH,), (PUSH, PUSH), word), True)
        self.assertIs(does_part(STACK, (PUSH,), (PUSH, PUSH, POP), word), False)
        self.assertIs(does_part(STACK, (PUSH,), (PUSH, ("pop", "b")), word), True)

    def test_the_first_trial_that_parts(self):
        for kind, one, other in pairs_of_rows(45, 100, 6):
            told = told_parting(kind, one, other)
            trials = [trial for trial in trials_for(kind, one, other) if does_part(kind, one, other, trial)]
            self.assertEqual(told, trials[0] if trials else None)
            self.assertIs(told is None, rows_alike(kind, one, other))

    def test_none_smaller(self):
        seen = 0
        for kind, one, other in pairs_of_rows(46, 200, 6):
            told = told_parting(kind, one, other)
            if told is None or kind[0] in ("tape", "table"):
                continue
            for contents in SOME_CONTENTS[kind]:
                if measured(kind, contents) < measured(kind, told):
                    seen += 1
                    self.assertIs(does_part(kind, one, other, contents), False)
        self.assertGreater(seen, 1000)

    def test_by_hand(self):
        self.assertEqual(told_parting(STACK, (), (POP,)), ())
        self.assertEqual(told_parting(STACK, (POP,), (("pop", "b"),)), ("a",))
        self.assertEqual(told_parting(STACK, (PUSH, POP), ()), None)
        self.assertEqual(told_parting(STACK, (), (POP, PUSH)), ())
        self.assertEqual(told_parting(FAIL, (("add", 4),), (("add", 2), ("add", 2))), None)
        self.assertEqual(told_parting(FAIL, (), (("add", 4), ("sub", 4))), 6)


class Papers(unittest.TestCase):
    def test_told_papers(self):
        for kind, one, other in pairs_of_rows(47, 100, 6):
            paper = part_paper(kind, one, other)
            told = told_parting(kind, one, other)
            if told is None:
                trials = trials_for(kind, one, other)
                lefts = [(trial, left_by_row(kind, one, trial), left_by_row(kind, other, trial)) for trial in trials]
                self.assertEqual(paper, ("alike", tuple(lefts)))
            else:
                self.assertEqual(paper, ("parts", told, left_by_row(kind, one, told), left_by_row(kind, other, told)))
            self.assertIs(accepts_part(kind, one, other, paper), True)
            # A paper of both the other way round is one of the other way round.
            if told is not None:
                turned = paper[:2] + (paper[3], paper[2])
                self.assertIs(accepts_part(kind, other, one, turned), True)
                self.assertIs(accepts_part(kind, one, other, turned), False)

    def test_rows_that_part_have_no_paper_that_they_are_alike(self):
        for kind, one, other in pairs_of_rows(48, 60, 5):
            if rows_alike(kind, one, other):
                continue
            contents = trials_for(kind, one, other) + SOME_CONTENTS[kind]
            lefts = [(part, left_by_row(kind, one, part), left_by_row(kind, other, part)) for part in contents]
            self.assertIs(accepts_part(kind, one, other, ("alike", tuple(lefts))), False)
            like = tuple(triple for triple in lefts if triple[1] == triple[2])
            self.assertIs(accepts_part(kind, one, other, ("alike", like)), False)

    def test_alike_in_any_order_and_with_others(self):
        one, other = (("take", "a"), ("put", "b")), (("take", "a"), ("put", "b"))
        paper = part_paper(QUEUE, one, other)
        self.assertEqual(paper, ("alike", (((), None, None), (("a",), ("b",), ("b",)))))
        more = (("a", "c"), ("c", "b"), ("c", "b"))
        for triples in (paper[1][::-1], paper[1] * 2, paper[1] + (more,), (more,) + paper[1] + (more,)):
            self.assertIs(accepts_part(QUEUE, one, other, ("alike", triples)), True)
        for triples in (paper[1][:1], paper[1][1:], (), paper[1] + ((("c",), None, ()),), paper[1] + ((("c",), (), ()),),
                        list(paper[1]), paper[1] + (None,), paper[1] + (more[:2],), paper[1] + ((["a"], ("b",), ("b",)),),
                        (((), None, None), (("a",), ("c",), ("c",))), None, "ab", paper[1] + (list(more),),
                        paper[1] + ((("a",), Everything(), Everything()),), paper[1] + ((Everything(), None, None),)):
            self.assertIs(accepts_part(QUEUE, one, other, ("alike", triples)), False)
        self.assertIs(accepts_part(QUEUE, one, other, ("alike",)), False)
        self.assertIs(accepts_part(QUEUE, one, other, ("like", paper[1])), False)
        self.assertIs(accepts_part(QUEUE, one, other, paper + ((),)), False)
        self.assertIs(accepts_part(QUEUE, one, other, ("alike", paper[1])), True)

    def test_rows_without_trials(self):
        nowhere, other = (PUSH, ("pop", "b")), (PUSH, ("pop", "c"))
        self.assertEqual(part_paper(STACK, nowhere, other), ("alike", ()))
        self.assertIs(accepts_part(STACK, nowhere, other, ("alike", ())), True)
        self.assertIs(accepts_part(STACK, nowhere, other, ("alike", (((), None, None),))), True)

    def test_bent_papers_of_a_parting(self):
        one, other = (("add", 1),), (("add", 2),)
        self.assertEqual(part_paper(FAIL, one, other), ("parts", 0, 1, 2))
        for value in (("parts", 0, 1, 2), ("parts", 8, 9, None), ("parts", 5, 6, 7)):
            self.assertIs(accepts_part(FAIL, one, other, value), True)
        for value in (("parts", 0, 1), ("parts", 0, 1, 2, 3), ["parts", 0, 1, 2], ("parts", 0, 2, 1), ("parts", 9, None, None),
                      ("parts", 0, True, 2), ("parts", False, 1, 2), ("parts", 0, 1.0, 2), ("parts", 0, 1, None), ("parts", 10, 11, 12),
                      ("parts", None, None, None), ("alike", 0, 1, 2), ("part", 0, 1, 2), (None, 0, 1, 2), ("parts",), (), None,
                      ("parts", 0, Everything(), 2), ("parts", Everything(), 1, 2), (Everything(), 0, 1, 2), "parts", *ODD):
            self.assertIs(accepts_part(FAIL, one, other, value), False)
        self.assertIs(accepts_part(FAIL, one, one, ("parts", 0, 1, 1)), False)

    def test_lefts_of_more_than_4000(self):
        for many, right in ((3999, True), (4000, False)):
            word = ("a",) * many
            value = ("parts", word, ("a",) + word, word)
            self.assertIs(accepts_part(STACK, (PUSH,), (), value), right)
            value = ("alike", (((), ("a",), ("a",)), (word, ("a",) + word, ("a",) + word)))
            self.assertIs(accepts_part(STACK, (PUSH,), (PUSH,), value), right)


class Keys(unittest.TestCase):
    def tells_apart(self, kind, rows, key):
        pairs = [pair for pair in combinations(rows, 2) if not rows_alike(kind, *pair)]
        return all(any(does_part(kind, one, other, contents) for contents in key) for one, other in pairs)

    def test_beside_all_smaller_tuples(self):
        draw = random.Random(49)
        sizes = set()
        for kind in ALL_KINDS:
            rows = small_rows(kind, 2)
            for _ in range(60):
                some = [draw.choice(rows) for _ in range(draw.randint(2, 5))]
                trials = []
                for one, other in combinations(some, 2):
                    trials += [trial for trial in trials_for(kind, one, other) if trial not in trials]
                if len(trials) > 16:
                    continue
                told = told_key(kind, some)
                sizes.add(len(told))
                first = next(key for many in range(5) for key in combinations(trials, many) if self.tells_apart(kind, some, key))
                self.assertEqual(told, first)
        self.assertLessEqual({0, 1, 2, 3}, sizes)

    def test_of_rows_of_many_trials(self):
        draw = random.Random(50)
        for kind in ALL_KINDS:
            steps = KIND_STEPS[kind[0]]
            for _ in range(10):
                rows = [tuple(draw.choice(steps) for _ in range(20)) for _ in range(5)]
                key = told_key(kind, rows)
                self.assertIs(self.tells_apart(kind, rows, key), True)
                self.assertLessEqual(len(key), 4)

    def test_by_hand(self):
        self.assertEqual(told_key(STACK, [(), ()]), ())
        self.assertEqual(told_key(STACK, [(POP,), (("pop", "b"),)]), (("a",),))
        self.assertEqual(told_key(STACK, ((POP,), (("pop", "b"),), (("pop", "c"),))), (("a",), ("b",)))
        self.assertEqual(told_key(FAIL, [(), (("add", 1),), (("add", 2),), (("add", 3),), (("add", 4),)]), (0,))

    def test_wrong_rows(self):
        for value in (None, [], [()], [()] * 6, "ab", {}, {(): 1, (PUSH,): 2}, (), ((),)):
            self.assertEqual(raised(told_key, STACK, value), ("NoRow", None))
        for row in ([PUSH], (("put", "a"),), None, (PUSH,) * 61, (["push", "a"],)):
            self.assertEqual(raised(told_key, STACK, [(), row, row]), ("NoRow", 1))
            self.assertEqual(raised(told_key, STACK, (row, ())), ("NoRow", 0))
        for kind in WRONG_KINDS:
            self.assertEqual(raised(told_key, kind, None), ("NoKind", kind))


class Errors(unittest.TestCase):
    def test_no_kind_then_no_rows(self):
        for call in CALLS:
            more = (None,) if call in (does_part, accepts_part) else ()
            for kind in WRONG_KINDS:
                self.assertEqual(raised(call, kind, None, None, *more), ("NoKind", kind))
            for row in (None, [PUSH], (("put", "a"),), PUSH, (PUSH,) * 61, (("push", "A"),)):
                self.assertEqual(raised(call, STACK, row, None, *more), ("NoRow", row))
                self.assertEqual(raised(call, STACK, (PUSH,), row, *more), ("NoRow", row))

    def test_no_contents(self):
        for value in (None, "a", ["a"], ("A",), ("a",) * 4001, (1,), *ODD):
            self.assertEqual(raised(does_part, STACK, (PUSH,), (), value), ("NoContents", value))
        self.assertEqual(raised(does_part, DROP, (), (), ("a",) * 4), ("NoContents", ("a",) * 4))


if __name__ == "__main__":
    unittest.main()
