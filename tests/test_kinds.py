"""Promise [1]: letters, kinds, steps, rows, contents and their sizes."""

import unittest

from boxeffects.kinds import is_contents, is_kind, is_letter, is_row, is_step, new_letter, size_of, under_head
from small import ODD, Everything, raised

STACK = ("stack",)
QUEUE = ("queue",)
TAPE = ("tape",)
HEAP = ("heap",)
TABLE = ("table",)
RING = ("ring", 3, "drop")
GAUGE = ("gauge", 9, "stop")
KINDS = (STACK, QUEUE, RING, TAPE, HEAP, GAUGE, TABLE)

# Of each kind all shapes of its steps, with edges; and what comes near to one.
STEPS = {
    STACK: (("push", "a"), ("pop", "zzzz")),
    QUEUE: (("put", "a"), ("take", "abcd")),
    RING: (("put", "a"), ("take",)),
    TAPE: (("left",), ("right",), ("write", "a"), ("expect", "ab")),
    HEAP: (("insert", -999), ("insert", 0), ("insert", 999), ("least",)),
    GAUGE: (("add", 1), ("add", 9), ("sub", 1), ("sub", 9)),
    TABLE: (("set", "n", "x"), ("clear", "n"), ("expect", "n", "x"), ("absent", "n")),
}
WRONG_STEPS = {
    STACK: (("push",), ("pop",), ("put", "a"), ("push", "a", "b"), ["push", "a"], ("push", 1), ("push", "A"),
            ("push", ""), ("push", "abcde"), ("push", ["a"]), ("push", None), "push", ("a", "push"),
            (["push"], "a"), (Everything(), "a"), ("push", Everything())),
    QUEUE: (("take",), ("put",), ("push", "a"), ("put", "a", "a"), ["put", "a"], ("take", ("a",))),
    RING: (("take", "a"), ("put",), ("push", "a"), ["take"], ("put", 1)),
    TAPE: (("left", 1), ("right", "a"), ("write",), ("expect",), ("expect", "n", "x"), ["left"], ("read", "a")),
    HEAP: (("insert", -1000), ("insert", 1000), ("insert", True), ("insert", False), ("insert", 1.0),
           ("insert", "a"), ("insert",), ("least", 1), ["least"], ("insert", 1, 2)),
    GAUGE: (("add", 0), ("add", 10), ("sub", 0), ("sub", 10), ("add", True), ("sub", -1), ("add",), ("add", "a"),
            ["add", 1], ("add", 1, 1)),
    TABLE: (("set", "n"), ("set", "n", "x", "y"), ("set", 1, "x"), ("set", "n", 1), ("clear",), ("clear", "n", "x"),
            ("expect", "n"), ("absent", "n", "x"), ("absent", "N"), ["clear", "n"], ("set", "n", None)),
}
CONTENTS = {
    STACK: ((), ("a",), ("a",) * 4000),
    QUEUE: ((), ("zz", "a"), ("a",) * 4000),
    RING: ((), ("a",), ("a", "b", "c")),
    TAPE: (((), "a"), (((0, "b"),), "a"), (((-3, "b"), (10 ** 100, "c")), "a"),
           (tuple((place, "b") for place in range(4000)), "a")),
    HEAP: ((), (-1000, -1000, 0, 1000), (5,) * 4000),
    GAUGE: (0, 1, 9),
    TABLE: ((), (("n", "x"),), (("a", "x"), ("aa", "x"), ("b", "x"))),
}
WRONG_CONTENTS = {
    STACK: (None, [], ["a"], "a", ("a", 1), ("a", "A"), (("a",),), ("a",) * 4001, ("a", True), 0),
    QUEUE: (None, [], ["a"], "ab", ("a", None), ("a",) * 4001),
    RING: (None, ["a"], ("a",) * 4, ("a", 1), "a"),
    TAPE: (None, (), ((), "a", "b"), ((),), [(), "a"], ([], "a"), ((), "A"), ((), None), (((0, "a"),), "a"),
           (((1, "b"), (0, "b")), "a"), (((0, "b"), (0, "c")), "a"), (((True, "b"),), "a"), ((("a", 0),), "b"),
           (([0, "b"],), "a"), (((0,),), "a"), (((0, "b", 1),), "a"), (((0, 1),), "a"), (((1.0, "b"),), "a"),
           (tuple((place, "b") for place in range(4001)), "a"), ("a", ()), (((0, "b"), (1, "a")), "a")),
    HEAP: (None, [1], (1, 0), (1001,), (-1001,), (True,), (1.0,), ("a",), (5,) * 4001, 5, (0, None)),
    GAUGE: (None, -1, 10, True, False, "a", (1,), 1.0),
    TABLE: (None, [], ["n"], (("b", "x"), ("a", "x")), (("a", "x"), ("a", "y")), (("a",),), (("a", "x", "y"),),
            (["a", "x"],), ((1, "x"),), (("a", None),), (("A", "x"),), {"a": "x"}),
}


def table_of_size(many):
    signs = "abcdefghijklmnopqrstuvwxyz"
    names = [one + two + three for one in signs for two in signs for three in signs]
    return tuple((name, "x") for name in names[:many])


class Letters(unittest.TestCase):
    def test_letters(self):
        for letter in ("a", "z", "az", "abc", "zzzz"):
            self.assertIs(is_letter(letter), True)

    def test_what_is_no_letter(self):
        for value in (*ODD, None, 1, 0, "a ", " ", "a\n", "aB", "a1", "\u00e9", "\u0430", "a-", ("a",)):
            self.assertIs(is_letter(value), False, value)


class Kinds(unittest.TestCase):
    def test_kinds(self):
        for kind in KINDS:
            self.assertIs(is_kind(kind), True)
        for mode in ("drop", "ignore", "fail"):
            for capacity in (1, 2, 11, 12):
                self.assertIs(is_kind(("ring", capacity, mode)), True)
        for mode in ("stop", "fail"):
            for capacity in (1, 12, 13, 999):
                self.assertIs(is_kind(("gauge", capacity, mode)), True)

    def test_what_is_no_kind(self):
        wrong = [
            ("ring", 0, "drop"), ("ring", 13, "drop"), ("ring", True, "drop"), ("ring", 3), ("ring",),
            ("ring", -1, "fail"), ("ring", 3, "stop"), ("ring", 3, "drop", 1), ("ring", "drop", 3),
            ("ring", 3, None), ("ring", 3, ["drop"]), ("ring", 3.0, "drop"), ("gauge", 0, "stop"),
            ("gauge", 1000, "stop"), ("gauge", 5, "drop"), ("gauge", 5), ("gauge", True, "fail"),
            ("gauge", 5, "ignore"), ("gauge", 5, ()), ("stack", 1), ("stack", 3, "drop"), "stack", ["stack"],
            ["ring", 3, "drop"], ("Stack",), ("deque",), (), (1,), (("stack",),), ("tape", "a"), (["stack"],),
            ("",), None, 0, 1, ("deque", 3, "drop"), ("ring", 3, Everything()), ("gauge", 3, Everything()),
        ]
        for value in (*wrong, *ODD):
            self.assertIs(is_kind(value), False, value)

    def test_no_kind_ahead_of_all(self):
        for wrong in (None, ["stack"], ("ring", 13, "drop"), ("ring", True, "fail"), 1, ()):
            for call in (is_step, is_row, is_contents, size_of):
                self.assertEqual(raised(call, wrong, object()), ("NoKind", wrong))


class Steps(unittest.TestCase):
    def test_steps_of_each_kind(self):
        for kind in KINDS:
            for step in STEPS[kind]:
                self.assertIs(is_step(kind, step), True, (kind, step))
            for step in (*WRONG_STEPS[kind], *ODD, None, 0, ()):
                self.assertIs(is_step(kind, step), False, (kind, step))

    def test_steps_of_one_kind_are_none_of_another(self):
        for kind in KINDS:
            for other in KINDS:
                for step in STEPS[other]:
                    self.assertEqual(is_step(kind, step), step in STEPS[kind] or fits_both(kind, step), (kind, step))

    def test_amounts_up_to_the_capacity(self):
        for capacity in (1, 12, 999):
            for mode in ("stop", "fail"):
                kind = ("gauge", capacity, mode)
                for verb in ("add", "sub"):
                    self.assertIs(is_step(kind, (verb, capacity)), True)
                    self.assertIs(is_step(kind, (verb, capacity + 1)), False)


def fits_both(kind, step):
    """Whether a step of one kind happens to be one of another: put of a queue and of a ring."""
    return step[0] == "put" and kind[0] in ("queue", "ring")


class Rows(unittest.TestCase):
    def test_sixty_steps_and_one_more(self):
        for kind in KINDS:
            step = STEPS[kind][0]
            self.assertIs(is_row(kind, ()), True)
            self.assertIs(is_row(kind, STEPS[kind]), True)
            self.assertIs(is_row(kind, (step,) * 60), True)
            self.assertIs(is_row(kind, (step,) * 61), False)
            self.assertIs(is_row(kind, [step]), False)
            self.assertIs(is_row(kind, step), False)
            for wrong in WRONG_STEPS[kind]:
                self.assertIs(is_row(kind, (step, wrong)), False, (kind, wrong))
            for value in (*ODD, None, 0):
                self.assertIs(is_row(kind, value), False, (kind, value))


class Contents(unittest.TestCase):
    def test_contents_of_each_kind(self):
        for kind in KINDS:
            for contents in CONTENTS[kind]:
                self.assertIs(is_contents(kind, contents), True, kind)
            for contents in WRONG_CONTENTS[kind]:
                self.assertIs(is_contents(kind, contents), False, kind)
            for value in ODD:
                self.assertIs(is_contents(kind, value), False, (kind, value))

    def test_capacities_bound_contents(self):
        for capacity in (1, 12):
            for mode in ("drop", "ignore", "fail"):
                self.assertIs(is_contents(("ring", capacity, mode), ("a",) * capacity), True)
                self.assertIs(is_contents(("ring", capacity, mode), ("a",) * (capacity + 1)), False)
        for capacity in (1, 999):
            self.assertIs(is_contents(("gauge", capacity, "fail"), capacity), True)
            self.assertIs(is_contents(("gauge", capacity, "fail"), capacity + 1), False)

    def test_tables_of_4000_and_4001(self):
        self.assertIs(is_contents(TABLE, table_of_size(4000)), True)
        self.assertIs(is_contents(TABLE, table_of_size(4001)), False)


class Sizes(unittest.TestCase):
    def test_size_of(self):
        self.assertEqual(size_of(STACK, ("a",) * 4000), 4000)
        self.assertEqual(size_of(QUEUE, ("a", "b")), 2)
        self.assertEqual(size_of(RING, ()), 0)
        self.assertEqual(size_of(TAPE, (((3, "b"), (7, "c")), "a")), 2)
        self.assertEqual(size_of(TAPE, ((), "a")), 0)
        self.assertEqual(size_of(HEAP, (1, 1, 1)), 3)
        self.assertEqual(size_of(GAUGE, 7), 7)
        self.assertEqual(size_of(TABLE, (("n", "x"),)), 1)

    def test_size_of_errors(self):
        for kind in KINDS:
            for wrong in WRONG_CONTENTS[kind]:
                self.assertEqual(raised(size_of, kind, wrong), ("NoContents", wrong))
        self.assertEqual(raised(size_of, None, None), ("NoKind", None))

    def test_under_head(self):
        contents = (((-2, "b"), (5, "c")), "a")
        told = [under_head(contents, place) for place in (-3, -2, 0, 5, 6, 10 ** 50)]
        self.assertEqual(told, ["a", "b", "a", "c", "a", "a"])

    def test_under_head_errors(self):
        for wrong in WRONG_CONTENTS[TAPE]:
            self.assertEqual(raised(under_head, wrong, None), ("NoContents", wrong))
        for wrong in (None, True, False, "a", 1.0, (0,), [0]):
            self.assertEqual(raised(under_head, ((), "a"), wrong), ("NoPlace", wrong))


class NewLetters(unittest.TestCase):
    def test_first_letter_that_is_not_there(self):
        alphabet = list("abcdefghijklmnopqrstuvwxyz")
        self.assertEqual(new_letter([]), "a")
        self.assertEqual(new_letter(()), "a")
        self.assertEqual(new_letter(["b", "aa"]), "a")
        self.assertEqual(new_letter(("a", "c", "a")), "b")
        self.assertEqual(new_letter(alphabet), "aa")
        self.assertEqual(new_letter(alphabet + ["aa", "ac"]), "ab")
        self.assertEqual(new_letter(alphabet + ["a" + sign for sign in alphabet]), "ba")

    def test_shorter_ones_ahead(self):
        alphabet = "abcdefghijklmnopqrstuvwxyz"
        pairs = [one + two for one in alphabet for two in alphabet]
        self.assertEqual(new_letter([*alphabet, *pairs]), "aaa")
        triples = [one + pair for one in alphabet for pair in pairs]
        self.assertEqual(new_letter([*alphabet, *pairs, *triples][:4000]), ([*alphabet, *pairs, *triples])[4000])

    def test_errors(self):
        for wrong in (None, "abc", {"a": 1}, {"a"}, 3, True, ["a"] * 4001, ("a",) * 4001, [None] * 4001):
            self.assertEqual(raised(new_letter, wrong), ("NoLetter", None))
        self.assertEqual(raised(new_letter, ["a", "B", 3]), ("NoLetter", "B"))
        self.assertEqual(raised(new_letter, ("a", 3, "B")), ("NoLetter", 3))
        self.assertEqual(raised(new_letter, (("a",),)), ("NoLetter", ("a",)))
        self.assertIsNone(raised(new_letter, ["a"] * 4000))


if __name__ == "__main__":
    unittest.main()
