"""Promise [19]: things, their texts, what is read of them, and which lines fit."""

import random
import unittest

from boxeffects.forms import form_of
from boxeffects.several import Boxes, mixed_form
from boxeffects.texts import is_thing, lines_due, read_text, write_text
from moved import DESKS, some_load, some_row
from small import ALL_KINDS, KIND_STEPS, ODD, SOME_CONTENTS, Everything, raised, small_rows

STACK, QUEUE, RING, TAPE, HEAP, TABLE = ("stack",), ("queue",), ("ring", 3, "drop"), ("tape",), ("heap",), ("table",)
STOP, FAIL = ("gauge", 9, "stop"), ("gauge", 9, "fail")
PAIRS = (("q", QUEUE), ("s", STACK))
DESK = (PAIRS, ("a", "b"))
PARTS = (("p", (("do", "q", ("put", "x")), ("do", "s", ("pop", "y")))), ("main", (("call", "p"), ("repeat", 12, "p"))))
# Things, and their texts, line by line.
WRITTEN = (
    (("row", RING, (("put", "x"), ("take",))), ("kind ring 3 drop", "row", "put x", "take")),
    (("row", HEAP, (("insert", -5), ("least",), ("insert", 0))), ("kind heap", "row", "insert -5", "least", "insert 0")),
    (("row", STACK, ()), ("kind stack", "row")),
    (("row", TABLE, (("set", "n", "x"), ("clear", "n"), ("expect", "m", "y"), ("absent", "n"))),
     ("kind table", "row", "set n x", "clear n", "expect m y", "absent n")),
    (("row", TAPE, (("left",), ("right",), ("write", "x"), ("expect", "y"))), ("kind tape", "row", "left", "right", "write x", "expect y")),
    (("row", STOP, (("add", 9), ("sub", 1))), ("kind gauge 9 stop", "row", "add 9", "sub 1")),
    (("contents", STACK, ("a", "bc", "a")), ("kind stack", "contents", "a bc a")),
    (("contents", QUEUE, ()), ("kind queue", "contents", "-")),
    (("contents", ("ring", 12, "ignore"), ("a",)), ("kind ring 12 ignore", "contents", "a")),
    (("contents", TAPE, (((-2, "x"), (10, "y")), "z")), ("kind tape", "contents", "z -2 x 10 y")),
    (("contents", TAPE, ((), "z")), ("kind tape", "contents", "z")),
    (("contents", HEAP, (-3, 0, 0, 7)), ("kind heap", "contents", "-3 0 0 7")),
    (("contents", HEAP, ()), ("kind heap", "contents", "-")),
    (("contents", FAIL, 0), ("kind gauge 9 fail", "contents", "0")),
    (("contents", TABLE, (("m", "x"), ("n", "x"))), ("kind table", "contents", "m x n x")),
    (("contents", TABLE, ()), ("kind table", "contents", "-")),
    (("form", STACK, (("a",), ())), ("kind stack", "form", "a", "-")),
    (("form", STACK, None), ("kind stack", "form", "nowhere")),
    (("form", QUEUE, (("a", "b"), ("b", "a"), 1)), ("kind queue", "form", "a b", "b a", "1")),
    (("form", RING, (None, (1, ()), (0, ("a", "b")), (2, ("c",)))), ("kind ring 3 drop", "form", "fails", "1", "0 a b", "2 c")),
    (("form", TAPE, (-3, (), ((-1, "x"), (0, "y")))), ("kind tape", "form", "-3", "-", "-1 x 0 y")),
    (("form", HEAP, (1, ((None, -1, 0), (-5, 0, 1)))), ("kind heap", "form", "1", ". -1 0", "-5 0 1")),
    (("form", HEAP, (0, ((None, 0, 0),))), ("kind heap", "form", "0", ". 0 0")),
    (("form", STOP, (2, -2, 6)), ("kind gauge 9 stop", "form", "2 -2 6")),
    (("form", FAIL, None), ("kind gauge 9 fail", "form", "nowhere")),
    (("form", TABLE, ((("m", None), ("n", "x")), (("o", None),))), ("kind table", "form", "m . n x", "o .")),
    (("mixed", PAIRS, (("q", ("put", "x")), ("s", ("pop", "y")))), ("box q queue", "box s stack", "mixed", "q put x", "s pop y")),
    (("mixed", PAIRS, ()), ("box q queue", "box s stack", "mixed")),
    (("all", PAIRS, (("x",), ())), ("box q queue", "box s stack", "all", "q x", "s -")),
    (("forms", PAIRS, ((("x",), (), 1), ((), ("y", "z")))),
     ("box q queue", "box s stack", "forms", "q", "x", "-", "1", "s", "-", "y z")),
    (("forms", PAIRS, None), ("box q queue", "box s stack", "forms", "nowhere")),
    (("forms", (("h", HEAP), ("r", ("ring", 1, "fail"))), ((0, ((None, 0, 0), (5, 1, 1))), ((0, ()), (1, ())))),
     ("box h heap", "box r ring 1 fail", "forms", "h", "0", ". 0 0", "5 1 1", "r", "0", "1")),
    (("moved", DESK, (("q", ("draw", "a")), ("s", ("lay", "a")), ("copy", "a", "b"), ("is", "a", "x"), ("same", "b", "a"), ("q", ("put", "a")))),
     ("box q queue", "box s stack", "register a", "register b", "moved", "q draw a", "s lay a", "- copy a b", "- is a x", "- same b a", "q put a")),
    (("moved", (PAIRS, ()), ()), ("box q queue", "box s stack", "moved")),
    (("moved", ((("t", TAPE),), ("a",)), (("t", ("look", "a")), ("t", ("left",)))), ("box t tape", "register a", "moved", "t look a", "t left")),
    (("load", DESK, (((), ("x", "y")), ("k", "l"))),
     ("box q queue", "box s stack", "register a", "register b", "load", "q -", "s x y", "register a k", "register b l")),
    (("load", ((("t", TAPE),), ()), (((((4, "x"),), "y"),), ())), ("box t tape", "load", "t y 4 x")),
    (("program", PAIRS, PARTS),
     ("box q queue", "box s stack", "part p", "do q put x", "do s pop y", "part main", "call p", "repeat 12 p")),
    (("program", PAIRS, (("p", ()), ("q", ()))), ("box q queue", "box s stack", "part p", "part q")),
)


def some_things(seed):
    """Things of each sort, of all kinds."""
    draw = random.Random(seed)
    for kind in ALL_KINDS:
        for row in small_rows(kind, 2)[::5]:
            yield "row", kind, row
            yield "form", kind, form_of(kind, row)
        for part in SOME_CONTENTS[kind][::3]:
            yield "contents", kind, part
    for _ in range(60):
        pairs = tuple((name, draw.choice(ALL_KINDS)) for name in "xab"[:draw.randint(1, 3)])
        row = tuple((name, draw.choice(KIND_STEPS[kind[0]])) for name, kind in [draw.choice(pairs) for _ in range(5)])
        yield "mixed", pairs, row
        yield "forms", pairs, mixed_form(Boxes(pairs), row)
        yield "all", pairs, tuple(draw.choice(SOME_CONTENTS[kind]) for _, kind in pairs)
        acts = tuple(("do",) + step for step in row)
        yield "program", pairs, (("p", acts), ("x", ()), ("main", (("call", "p"), ("repeat", draw.randint(1, 10 ** 12), "x"))))
        desk = draw.choice(DESKS)
        yield "moved", desk, some_row(draw, desk, 6)
        yield "load", desk, some_load(draw, desk)


class Writing(unittest.TestCase):
    def test_each_sort_of_thing(self):
        for thing, lines in WRITTEN:
            with self.subTest(thing=thing):
                self.assertIs(is_thing(thing), True)
                self.assertEqual(write_text(thing), "\n".join(lines))
                self.assertEqual(read_text("\n".join(lines)), thing)

    def test_there_and_back(self):
        for thing in some_things(71):
            text = write_text(thing)
            self.assertEqual(read_text(text), thing)
            self.assertEqual(write_text(read_text(text)), text)
            self.assertEqual(read_text(text)[0], thing[0])

    def test_examples_of_the_document(self):
        self.assertEqual(write_text(("form", ("queue",), (("a", "b"), ("b", "a"), 1))), "kind queue\nform\na b\nb a\n1")
        told = read_text("box q queue\nbox s stack\nregister a\nmoved\nq draw a\ns lay a")
        self.assertEqual(told, ("moved", (PAIRS, ("a",)), (("q", ("draw", "a")), ("s", ("lay", "a")))))

    def test_great_numbers(self):
        thing = ("form", TAPE, (10 ** 150, (), ((-10 ** 150, "x"),)))
        self.assertEqual(read_text(write_text(thing)), thing)


class Things(unittest.TestCase):
    def test_bent_values(self):
        row, load = (("put", "x"),), (((), ()), ("k", "l"))
        for value in (
            None, (), ("row",), ("row", QUEUE), ("row", QUEUE, row, ()), ["row", QUEUE, row], ("row", QUEUE, list(row)), ("row", STACK, row),
            ("row", "queue", row), ("row", list(QUEUE), row), ("rows", QUEUE, row), ("boxes", PAIRS, (((), (), 0), ((), ()))), (None, QUEUE, row), (("row",), QUEUE, row),
            (Everything(), QUEUE, row), ("row", QUEUE, row * 61), ("row", ("ring", 13, "drop"), ()), ("contents", QUEUE, ["x"]),
            ("contents", QUEUE, None), ("contents", FAIL, True), ("contents", FAIL, 10), ("contents", RING, ("x",) * 4),
            ("contents", STACK, ("x",) * 4001), ("contents", HEAP, (2, 1)), ("contents", TAPE, (((0, "x"),), "x")), ("form", QUEUE, None),
            ("form", STOP, None), ("form", HEAP, None), ("form", QUEUE, (("a",), ("a",), 2)), ("form", STACK, ((), ["x"])),
            ("mixed", PAIRS, row), ("mixed", list(PAIRS), ()), ("mixed", (), ()), ("mixed", PAIRS * 4, ()), ("mixed", PAIRS + PAIRS, ()),
            ("mixed", Boxes(PAIRS), ()), ("mixed", (PAIRS[0][:1],), ()), ("mixed", PAIRS, (("q", ("put", "x")),) * 61), ("mixed", PAIRS, None),
            ("all", PAIRS, ((),)), ("all", PAIRS, [(), ()]), ("all", PAIRS, None), ("forms", PAIRS, ((), ())), ("forms", PAIRS, (None, None)),
            ("forms", (("q", QUEUE),), None), ("moved", PAIRS, ()), ("moved", DESK, None), ("moved", DESK, (("copy", "a", "c"),)),
            ("moved", DESK, (("copy", "a", "b"),) * 25), ("moved", (PAIRS[::-1], ()), ()), ("moved", ((("h", HEAP),), ()), ()),
            ("load", DESK, None), ("load", DESK, load[:1]), ("load", DESK, (load[0], ("k",))), ("load", PAIRS, load),
            ("program", PAIRS, list(PARTS)), ("program", PAIRS, ()), ("program", PAIRS, PARTS[1:]), ("program", PAIRS, PARTS + PARTS),
            ("program", DESK, PARTS), ("program", PAIRS, (["p", ()],)), ("program", PAIRS, (("p", []),)), ("program", list(PAIRS), PARTS),
            ("program", PAIRS, None), "row", *ODD,
        ):
            with self.subTest(value=value):
                self.assertIs(is_thing(value), False)
                self.assertEqual(raised(write_text, value), ("NoThing", value))

    def test_right_ones(self):
        for thing in some_things(72):
            self.assertIs(is_thing(thing), True)


class Fitting(unittest.TestCase):
    def check(self, lines, fits, told="as many"):
        """Check how many of the lines fit, and with which line, or with None, reading fails."""
        text = "\n".join(lines)
        self.assertEqual(lines_due(text), fits, lines)
        if told is not False:
            self.assertEqual(raised(read_text, text), ("BadText", fits if told == "as many" else told), lines)

    def test_the_beginnings_of_each_text(self):
        for thing, lines in WRITTEN:
            for many in range(1, len(lines) + 1):
                self.assertEqual(lines_due("\n".join(lines[:many])), many)
            # One line more: an empty one never fits.
            self.assertEqual(lines_due("\n".join(lines) + "\n"), len(lines))
            self.assertEqual(raised(read_text, "\n".join(lines) + "\n"), ("BadText", len(lines)))

    def test_one_more_is_due(self):
        for lines in (("kind stack",), ("kind stack", "form"), ("kind stack", "form", "a"), ("kind queue", "form", "a", "-"),
                      ("kind stack", "contents"), ("kind ring 2 fail", "form", "fails", "1"), ("kind heap", "form"), ("kind heap", "form", "0"),
                      ("kind tape", "form", "0", "-"), ("box q queue",), ("box q queue", "register a"), ("box q queue", "all"),
                      ("box q queue", "box s stack", "all", "q x"), ("box q queue", "forms"), ("box q queue", "forms", "q", "-", "-"),
                      ("box q queue", "register a", "load", "q -"), ("box q queue", "box s stack", "forms", "q", "-", "-", "0")):
            self.check(lines, len(lines))

    def test_lines_that_do_not_fit(self):
        for lines in (("",), ("box",), ("kind",), ("kind box",), ("kind ring 13 drop",), ("kind ring 3 stop",), ("kind ring 03 drop",), ("kind ring 3",),
                      ("kind gauge 1000 stop",), ("kind stack 1",), ("Kind stack",), ("row",), ("box q",), ("box Q queue",), ("box abcde stack",),
                      ("box q queue 1",), ("register a",), ("part p",), ("kind  stack",), (" kind stack",), ("kind stack ",), ("kind\tstack",),
                      ("mixed",), ("kind ring 0 drop",), ("kind ring -1 drop",)):
            self.check(lines, 0)
        for lines in (("kind stack", "mixed"), ("kind stack", "row x"), ("kind stack", ""), ("kind stack", "kind stack"), ("kind stack", "Row"),
                      ("box q queue", "row"), ("box q queue", "kind stack"), ("box q queue", "program"), ("box q queue", "register A"),
                      ("box q queue", "register"), ("box q queue", "register a b"), ("box q queue", "part"), ("box q queue", "part P"),
                      ("box q queue", "do q put x"), ("box q queue", "part abcde"), ("box q queue", ""), ("box q queue", "box")):
            self.check(lines, 1)
        for word in ("mixed", "all", "forms", "part p", "box s stack", "row", "program"):
            self.check(("box q queue", "register a", word), 2)

    def test_steps(self):
        for kind, fitting, others in (
            ("stack", ("push x", "pop abcd"), ("put x", "push", "push X", "push x y", "push abcde", "-", "push  x", "push x ", "pop 1", "")),
            ("ring 2 drop", ("put x", "take"), ("take x", "put", "left", "take ")),
            ("queue", ("put x", "take x"), ("take", "push x")),
            ("tape", ("left", "right", "write x", "expect x"), ("left x", "look a", "expect x y", "write")),
            ("heap", ("insert 5", "insert -5", "insert 0", "insert 5000", "least"), ("insert 05", "insert -0", "insert +5", "insert", "insert x",
                                                                              "least 1", "insert 5 5", "insert -", "insert 1.0")),
            ("gauge 5 fail", ("add 5", "sub 1", "add 0", "add 77", "sub -3"), ("add x", "add", "set n x", "add 00")),
            ("table", ("set n x", "clear n", "expect n x", "absent n"), ("set n", "clear n x", "expect n", "absent", "set n .", "set N x")),
        ):
            for line in fitting:
                self.assertEqual(lines_due("\n".join(("kind " + kind, "row", line))), 3, line)
            for line in others:
                self.check(("kind " + kind, "row", fitting[0], line), 3)

    def test_contents(self):
        for kind, fitting, others in (
            ("stack", ("a", "a b", "-"), ("", "a -", "- a", "A", "1", "--", "a  b")),
            ("ring 1 drop", ("a", "a b c", "-"), ("0", "1 a")),
            ("tape", ("a", "a 1 b", "a 5 b -1 c 5 d", "a 1 a"), ("-", "1 a", "a 1", "a b", "a -", "a 01 b", "a 1 b 2", "")),
            ("heap", ("-", "1", "2 1", "5000", "-3 0"), ("a", "1 -", "01", "-0", ". 1")),
            ("gauge 5 fail", ("0", "-3", "77"), ("-", "a", "1 2", "", "00")),
            ("table", ("-", "a b", "b a a b", "a b a c"), ("a", "a .", "a 1", "a b c", "- -")),
        ):
            for line in fitting:
                self.assertEqual(lines_due("\n".join(("kind " + kind, "contents", line))), 3, line)
                self.check(("kind " + kind, "contents", line, line), 3)
            for line in others:
                self.check(("kind " + kind, "contents", line), 2)

    def test_forms(self):
        for lines, fits in (
            (("stack", "a", "1"), 3), (("stack", "nowhere", "nowhere"), 3), (("stack", "a", "nowhere"), 3), (("queue", "a", "-", "x"), 4),
            (("queue", "-", "-", "-1", "0"), 5), (("ring 1 drop", "fails", "fails", "fails"), 4), (("ring 1 drop", "a"), 2),
            (("ring 1 drop", "-"), 2), (("ring 1 drop", "1 -"), 2), (("ring 1 drop", "7 a b c", "fails x"), 3), (("tape", "-"), 2),
            (("tape", "0", "a 1"), 3), (("tape", "0", "1 a", "1 a 2"), 4), (("tape", "0", "-", "-", "-"), 5), (("heap", "x"), 2),
            (("heap", "0", "1 0 0"), 3), (("heap", "0", "a 0 0"), 3), (("heap", "0", ". 0 0", ". 0 0"), 4), (("heap", "0", ". 0 0", "1 0"), 4), (("heap", "0", "."), 3),
            (("heap", "0", ". 0 0", "5 1 1", "-"), 5), (("gauge 5 fail", "0 0"), 2), (("gauge 5 fail", "0 0 0", "0 0 0"), 3),
            (("gauge 5 fail", "0 0 x"), 2), (("table", "a"), 2), (("table", "a .", "a 1"), 3), (("table", "-", "a b .", "-"), 3),
            (("table", ". a"), 2), (("stack", ""), 2), (("gauge 5 fail", "-"), 2),
        ):
            self.check(("kind " + lines[0], "form") + lines[1:], fits)

    def test_what_fits_and_is_no_thing(self):
        for lines in (
            ("kind stack", "row") + ("push x",) * 61, ("kind heap", "row", "insert 1000"), ("kind gauge 5 stop", "row", "add 6"),
            ("kind gauge 5 stop", "row", "add 0"), ("kind gauge 5 stop", "form", "nowhere"), ("kind queue", "form", "nowhere"),
            ("kind queue", "form", "a", "a", "2"), ("kind ring 1 drop", "contents", "a b"), ("kind tape", "contents", "a 1 a"),
            ("kind tape", "contents", "a 2 b 1 b"), ("kind heap", "contents", "2 1"), ("kind gauge 5 stop", "contents", "6"),
            ("kind table", "contents", "b x a x"), ("kind table", "contents", "a x a x"), ("kind ring 1 drop", "form", "fails", "fails"),
            ("kind ring 1 drop", "form", "2", "fails"), ("kind tape", "form", "0", "1 a", "1 a"), ("kind heap", "form", "1", ". 0 0"),
            ("kind heap", "form", "0", ". 0 0", "5 0 0"), ("kind gauge 5 fail", "form", "9 9 9"), ("kind table", "form", "a x", "a x"),
            ("box q queue", "box q queue", "mixed"), ("box q queue",) * 7 + ("mixed",), ("box q queue", "forms", "nowhere"),
            ("box h heap", "moved"), ("box q queue", "box a queue", "load", "q -", "a -"), ("box q queue", "register b", "register a", "moved"),
            ("box q queue", "register a", "register a", "load", "q -", "register a x", "register a x"), ("box r ring 2 ignore", "moved"),
            ("box q queue", "mixed") + ("q put x",) * 61, ("box q queue", "moved") + ("q put x",) * 25, ("box q queue", "part p", "call p"),
            ("box q queue", "part p", "repeat 0 p"), ("box q queue", "part p", "part p"), ("box q queue",) + ("part p",) * 7,
            ("box q queue", "part p") + ("do q put x",) * 61, ("box q queue", "part p", "call x"), ("box q queue", "forms", "q", "nowhere"),
            ("box g gauge 5 fail", "part p", "do g add 6"), ("box r ring 2 ignore", "register a", "moved", "r draw a"),
        ):
            self.check(lines, len(lines), None)

    def test_mixed_all_and_forms(self):
        boxes = ("box q queue", "box s stack")
        for line in ("q pop x", "x put x", "put x", "q put", "- put x", "q draw a", "q  put x", "Q put x", "s"):
            self.check(boxes + ("mixed", "q put x", line), 4)
        for line in ("s x", "x", "q", "q x 1", "q - -", "-", "q ", ""):
            self.check(boxes + ("all", line), 3)
        self.check(boxes + ("all", "q x", "q x"), 4)
        self.check(boxes + ("all", "q x", "s -", "s -"), 5)
        for lines, fits in ((("s",), 3), (("q", "a", "b", "x"), 6), (("q x",), 3), (("q", "-", "-", "0", "q"), 7), (("nowhere", "q"), 4),
                            (("q", "-", "-", "0", "s", "-", "-", "-"), 10), (("Nowhere",), 3), (("q", "nowhere", "s", "nowhere", "s"), 7)):
            self.check(boxes + ("forms",) + lines, fits)

    def test_heaps_among_forms(self):
        boxes = ("box h heap", "box q queue")
        self.check(boxes + ("forms", "h", "0", ". 0 0", "5 1 1", "7 2 2", "q", "-", "-"), 11)
        self.check(boxes + ("forms", "h", "0", ". 0 0", "5 1 1", "h"), 7)
        self.check(boxes + ("forms", "h", "0", "q"), 5)
        self.check(boxes + ("forms", "h", "0", ". 0 0", "5 1"), 6)

    def test_moved_rows_and_loads(self):
        desk = ("box q queue", "box t tape", "register a", "register b")
        for line in ("q draw a", "q lay b", "q put x", "t look a", "t lay b", "t left", "- copy a a", "- is b x", "- same a b"):
            self.assertEqual(lines_due("\n".join(desk + ("moved", line))), 6)
        for line in ("q draw c", "q look a", "t draw a", "copy a b", "- copy a c", "- is c x", "- is a X", "- same a x", "- copy a", "- q put x",
                     "-", "q lay", "q lay a b", "x lay a", "- draw a b", "- is a x y", ""):
            self.check(desk + ("moved", "q put x", line), 6)
        for lines, fits in ((("q -", "t -"), 6), (("q -", "t x", "register b x"), 7), (("q -", "t x", "register a"), 7), (("t x",), 5),
                            (("q -", "t x", "register a X"), 7), (("q -", "t x", "register a x", "register a x"), 8),
                            (("q -", "t x", "a x"), 7), (("q -", "t x", "register a x", "register b x", "register b x"), 9)):
            self.check(desk + ("load",) + lines, fits)
        # A kind that no desk has has no such steps.
        self.check(("box h heap", "register a", "moved", "h insert 1", "h lay a"), 4)

    def test_programs(self):
        head = ("box q queue", "box g gauge 5 fail", "part p")
        for line in ("do q put x", "do g add 77", "call p", "call zzzz", "repeat 0 p", "repeat -1 x", "repeat 9999999999999 p", "part p"):
            self.assertEqual(lines_due("\n".join(head + (line,))), 4)
        for line in ("do x put x", "do q add 1", "q put x", "do q", "do", "call", "call P", "call p p", "repeat p", "repeat 01 p", "repeat 2",
                     "repeat 2 p p", "part", "part p p", "part Main", "", "do q put x y", "do q draw a", "mixed", "jump 2 p", "put 2 p", "box r queue", "register a"):
            self.check(head + ("do q put x", line), 4)

    def test_what_was_told_twice(self):
        # The first one counts.
        self.check(("box q queue", "box q stack", "mixed", "q put x", "q push x"), 4)
        self.check(("box q queue", "box q stack", "part p", "do q take x", "do q pop x"), 4)
        self.check(("box q queue", "box q tape", "register a", "moved", "q draw a", "q look a"), 5)

    def test_no_text(self):
        for value in (None, 1, ["kind stack"], b"kind stack", ("kind stack", "row"), *ODD):
            if isinstance(value, str):
                continue
            self.assertEqual(raised(read_text, value), ("BadText", None))
            self.assertEqual(raised(lines_due, value), ("BadText", None))
        self.assertEqual(raised(read_text, ""), ("BadText", 0))
        self.assertEqual(lines_due(""), 0)
        self.assertEqual(lines_due("\n"), 0)
        self.assertEqual(lines_due("\nkind stack"), 0)

    def test_bent_lines_of_right_texts(self):
        draw = random.Random(73)
        for thing in list(some_things(74))[::3]:
            lines = write_text(thing).split("\n")
            place = draw.randrange(len(lines))
            for bent in (" " + lines[place], lines[place] + " ", lines[place].replace(" ", "  ", 1), lines[place].upper(), ""):
                if bent == lines[place]:
                    continue
                text = "\n".join(lines[:place] + [bent] + lines[place + 1:])
                self.assertEqual(lines_due(text), place)
                self.assertEqual(raised(read_text, text), ("BadText", place))


if __name__ == "__main__":
    unittest.main()
