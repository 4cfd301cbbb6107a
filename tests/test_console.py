"""Promise [21]: each line of the console, with a bench and without one; error and unknown change nothing."""

import unittest

from boxeffects.bench import Bench
from boxeffects.console import Console
from boxeffects.programs import Program, failing_number, length_of, step_at, steps_left
from boxeffects.several import Boxes
from boxeffects.texts import write_text
from small import ODD, raised

PAIRS = (("q", ("queue",)), ("g", ("gauge", 9, "fail")))
BOXES = Boxes(PAIRS)
START = (("a",), 3)
ROW = (("q", ("put", "x")), ("g", ("add", 1)))
PARTS = (("p", (("do", "q", ("put", "y")), ("do", "g", ("sub", 1)))), ("main", (("repeat", 10 ** 12, "p"), ("call", "p"))))
OF_BENCH = ("do q put x", "row", "repeat 2", "undo", "redo", "undo q", "now q", "was 0 q", "deeds", "form 0 0", "length", "step 0", "fails",
            "after 0 q")
UNKNOWN = (
    "", " ", "do", "do q", "do q jump x", "do q put", "do q put X", "do Q put x", "do abcde put x", "do q  put x", "do q put x ", "do q add 01",
    "do q insert -0", "do q draw a", "do q -", "row x", "row ", " row", "Row", "repeat", "repeat x", "repeat 01", "repeat 1 2", "repeat +1", "repeat 1.0",
    "repeat -0", "undo Q", "undo q q", "undo ", "undo abcde", "redo q", "redo ", "now", "now Q", "now q q", "now 1", "was q", "was 1", "was q 1", "was 00 q",
    "was 1  q", "deeds 1", "deeds ", "form", "form 1", "form 1 2 3", "form a b", "length x", "step", "step x", "step 1 2", "fails 1", "after 1",
    "after q 1", "after 1 Q", "after 1 q q", "drop x", "drop ", "thing x", "fits 1", "begin x", "- copy a b", "kind stack", "box q queue", "mixed",
    "a\nb", "+a\nb", "+\n", "\n", "drop\n", "\ndrop", "error", "ok", "unknown", "undo\nredo", "do q put x\n",
)


def asked(console, *lines):
    return [console.run(line) for line in lines]


def keep(console, thing):
    """Keep the lines of a thing's text, and no others."""
    for line in ["drop"] + ["+" + line for line in write_text(thing).split("\n")]:
        assert console.run(line) == "ok"


def begun(contents=START):
    """A console with a bench, and no kept lines."""
    console = Console()
    keep(console, ("all", PAIRS, contents))
    assert asked(console, "begin", "drop") == ["ok", "ok"]
    return console


def state(console):
    """What the console tells of its lines and its bench."""
    many = int(console.run("deeds")) if console.run("deeds") != "error" else 0
    told = asked(console, "fits", "thing", "deeds", "now q", "now g", "length")
    return told + [console.run("was " + str(moment) + " " + name) for moment in range(many + 1) for name in "qg"]


class Lines(unittest.TestCase):
    def test_no_line(self):
        console = begun()
        for value in (None, 1, b"drop", ["drop"], ("drop",), *[value for value in ODD if not isinstance(value, str)]):
            self.assertEqual(raised(console.run, value), ("NoLine", value))
        self.assertEqual(console.run("deeds"), "0")

    def test_unknown_lines_with_a_bench_and_without_one(self):
        for console in (Console(), begun()):
            console.run("+box q queue")
            held = state(console)
            for line in UNKNOWN:
                self.assertEqual(console.run(line), "unknown", line)
            self.assertEqual(state(console), held)

    def test_without_a_bench(self):
        console = Console()
        self.assertEqual(asked(console, *OF_BENCH), ["error"] * len(OF_BENCH))
        keep(console, ("mixed", PAIRS, ROW))
        self.assertEqual(asked(console, *OF_BENCH), ["error"] * len(OF_BENCH))
        self.assertEqual(asked(console, "begin", "now q", "thing", "fits"), ["error", "error", "mixed", "5"])
        keep(console, ("all", PAIRS, START))
        self.assertEqual(asked(console, "now q", "begin", "now q"), ["error", "ok", "a"])

    def test_numbers_and_steps_that_are_refused_are_known(self):
        console = begun()
        held = state(console)
        for line in ("do q take x", "do q push x", "do x put x", "do g add 10", "do g add 0", "do g add -5", "do g insert 99999", "do q left",
                     "do q set n x", "do q take", "repeat 0", "repeat -5", "was -1 q", "was 1 q", "was 0 x", "now x", "undo", "redo", "undo q", "undo x",
                     "form 0 1", "form -1 0", "form 1 0", "step 0", "step -1", "after 0 q", "length", "fails", "row", "repeat 1", "begin", "thing"):
            self.assertEqual(console.run(line), "error", line)
        self.assertEqual(state(console), held)


class Kept(unittest.TestCase):
    def test_kept_lines(self):
        console = Console()
        self.assertEqual(asked(console, "fits", "thing", "+kind stack", "fits", "thing", "+row", "fits", "thing", "+push x", "fits"),
                         ["0", "error", "ok", "1", "error", "ok", "2", "row", "ok", "3"])
        self.assertEqual(asked(console, "+", "fits", "thing", "+push y", "fits", "drop", "fits", "thing"),
                         ["ok", "3", "error", "ok", "3", "ok", "0", "error"])
        # An empty line is a line, which fits nowhere.
        self.assertEqual(asked(console, "+", "fits", "thing"), ["ok", "0", "error"])
        # All behind the sign is kept as it is.
        self.assertEqual(asked(console, "drop", "+ kind stack", "fits", "drop", "++", "fits", "drop", "+kind stack", "+contents", "+-", "thing"),
                         ["ok", "ok", "0", "ok", "ok", "0", "ok", "ok", "ok", "ok", "contents"])

    def test_the_first_word_of_each_thing(self):
        console = Console()
        desk = (PAIRS[:1], ("a",))
        for thing in (("row", ("stack",), ()), ("contents", ("stack",), ()), ("form", ("stack",), None), ("mixed", PAIRS, ROW), ("all", PAIRS, START),
                      ("forms", PAIRS, None), ("moved", desk, (("q", ("draw", "a")),)), ("load", desk, (((),), ("k",))), ("program", PAIRS, PARTS)):
            keep(console, thing)
            self.assertEqual(console.run("thing"), thing[0])
            self.assertEqual(console.run("begin"), "ok" if thing[0] == "all" else "error")

    def test_begin(self):
        console = begun()
        self.assertEqual(asked(console, "now q", "now g", "deeds", "do g add 1", "deeds"), ["a", "3", "0", "ok", "1"])
        # What is refused leaves the bench as it was; a new one is begun anew.
        keep(console, ("mixed", PAIRS, ROW))
        self.assertEqual(asked(console, "begin", "now g"), ["error", "4"])
        keep(console, ("all", (("s", ("stack",)),), (("x", "y"),)))
        self.assertEqual(asked(console, "begin", "now s", "now g", "deeds"), ["ok", "x y", "error", "0"])


class OnTheBench(unittest.TestCase):
    def test_beside_the_bench(self):
        console, made = begun(), Bench(BOXES, START)
        keep(console, ("mixed", PAIRS, ROW))
        calls = (
            ("row", lambda: made.do(ROW)), ("do g sub 2", lambda: made.do((("g", ("sub", 2)),))), ("repeat 3", lambda: made.repeat(ROW, 3)),
            ("undo", made.undo), ("redo", made.redo), ("do q take a", lambda: made.do((("q", ("take", "a")),))), ("undo g", lambda: made.undo_of("g")),
            ("undo q", lambda: made.undo_of("q")), ("repeat 9", lambda: made.repeat(ROW, 9)), ("undo g", lambda: made.undo_of("g")),
            ("redo", made.redo), ("undo x", lambda: made.undo_of("x")), ("undo", made.undo), ("undo", made.undo), ("undo", made.undo),
            ("undo", made.undo), ("redo", made.redo), ("row", lambda: made.do(ROW)), ("redo", made.redo),
        )
        for line, call in calls:
            told = "ok" if raised(call) is None else "error"
            self.assertEqual(console.run(line), told, line)
            self.assertEqual(console.run("deeds"), str(len(made.deeds())))
            for moment in range(len(made.deeds()) + 1):
                self.assertEqual(console.run("was " + str(moment) + " g"), str(made.was(moment)[1]))
                self.assertEqual(console.run("was " + str(moment) + " q"), " ".join(made.was(moment)[0]) or "-")
            self.assertEqual(console.run("now g"), str(made.now()[1]))

    def test_steps_of_all_kinds(self):
        pairs = (("r", ("ring", 2, "drop")), ("s", ("stack",)), ("t", ("tape",)), ("h", ("heap",)), ("g", ("gauge", 9, "stop")), ("m", ("table",)))
        console = Console()
        keep(console, ("all", pairs, ((), (), ((), "z"), (), 0, ())))
        lines = ("do r put x", "do r take", "do s push x", "do s pop x", "do t left", "do t right", "do t write y", "do t expect y", "do h insert -5",
                 "do h least", "do g add 5", "do g sub 1", "do m set n x", "do m expect n x", "do m clear n", "do m absent n")
        self.assertEqual(asked(console, "begin", *lines), ["ok"] * (len(lines) + 1))
        self.assertEqual(asked(console, "now r", "now s", "now t", "now h", "now g", "now m"), ["-", "-", "z 0 y", "-", "4", "-"])
        self.assertEqual(asked(console, "do m set b x", "do m set a y", "now m", "do h insert 3", "do h insert -3", "now h"),
                         ["ok", "ok", "a y b x", "ok", "ok", "-3 3"])

    def test_rows_of_other_boxes(self):
        console = begun()
        for thing in (("mixed", PAIRS[::-1], ROW), ("mixed", PAIRS[:1], ROW[:1]), ("row", ("queue",), (("put", "x"),)),
                      ("all", PAIRS, START), ("mixed", (("q", ("queue",)), ("g", ("gauge", 8, "fail"))), ROW), ("program", PAIRS, PARTS)):
            keep(console, thing)
            self.assertEqual(asked(console, "row", "repeat 2", "deeds"), ["error", "error", "0"])
        keep(console, ("mixed", PAIRS, ROW))
        console.run("+")
        self.assertEqual(console.run("row"), "error")

    def test_forms(self):
        console = begun()
        keep(console, ("mixed", PAIRS, ROW))
        self.assertEqual(asked(console, "row", "do q take a", "repeat 2"), ["ok"] * 3)
        self.assertEqual(console.run("form 0 0"), "q / - / - / 0 / g / 0 0 9")
        self.assertEqual(console.run("form 0 1"), "q / - / x / 0 / g / 0 1 8")
        self.assertEqual(console.run("form 0 3"), "q / a / x x x / 1 / g / 0 3 6")
        self.assertEqual(console.run("form 1 2"), "q / a / - / 1 / g / 0 0 9")
        self.assertEqual(asked(console, "form 0 4", "form 3 2", "form 3 3"), ["error", "error", "q / - / - / 0 / g / 0 0 9"])

    def test_too_long_is_an_error(self):
        console = begun()
        keep(console, ("mixed", PAIRS, (("q", ("put", "x")),)))
        self.assertEqual(asked(console, "repeat 3999", "row", "deeds", "repeat 1000000000001", "repeat 1000000000000"), ["ok", "error", "1", "error", "error"])
        keep(console, ("mixed", PAIRS, (("q", ("take", "a")), ("q", ("put", "a")), ("q", ("take", "x")), ("q", ("put", "x")))))
        self.assertEqual(asked(console, "row", "form 0 2", "form 0 1", "deeds"), ["ok", "error", "q / - / " + "x " * 3998 + "x / 0 / g / 0 0 9", "2"])


class OfPrograms(unittest.TestCase):
    def test_beside_the_program(self):
        console = begun()
        keep(console, ("program", PAIRS, PARTS))
        made = Program(BOXES, PARTS)
        self.assertEqual(console.run("length"), str(length_of(made, "main")))
        for k in (0, 1, 7, 2 * 10 ** 12, 2 * 10 ** 12 + 1):
            name, step = step_at(made, k)
            self.assertEqual(console.run("step " + str(k)), " ".join([name] + [str(part) for part in step]))
        self.assertEqual(asked(console, "step 2000000000002", "step -1"), ["error", "error"])
        self.assertEqual(console.run("fails"), str(failing_number(made, START)))
        for k in range(8):
            left = steps_left(made, k, START)
            self.assertEqual(console.run("after " + str(k) + " q"), " ".join(left[0]))
            self.assertEqual(console.run("after " + str(k) + " g"), str(left[1]))
        self.assertEqual(asked(console, "after 8 q", "after 99 g", "after 8 x", "after 0 x"), ["nowhere", "nowhere", "error", "error"])
        self.assertEqual(asked(console, "after 2000000000002 q", "after 2000000000003 q", "after -1 q"), ["nowhere", "error", "error"])
        # By the contents now; the bench stays as it is.
        self.assertEqual(asked(console, "do g sub 3", "fails", "after 1 q", "deeds", "now q"), ["ok", "1", "a y", "1", "a"])

    def test_a_program_that_works(self):
        console = begun()
        keep(console, ("program", PAIRS, (("p", (("do", "q", ("take", "a")),)), ("main", (("call", "p"), ("do", "g", ("add", 1)))))))
        self.assertEqual(asked(console, "length", "fails", "after 2 q", "after 2 g", "after 0 q", "step 1"), ["2", "none", "-", "4", "a", "g add 1"])
        keep(console, ("program", PAIRS, (("main", ()),)))
        self.assertEqual(asked(console, "length", "fails", "after 0 q", "step 0", "after 1 q"), ["0", "none", "a", "error", "error"])

    def test_programs_of_other_boxes(self):
        console = begun()
        for thing in (("program", PAIRS[::-1], PARTS), ("mixed", PAIRS, ROW), ("all", PAIRS, START)):
            keep(console, thing)
            self.assertEqual(asked(console, "length", "step 0", "fails", "after 0 q"), ["error"] * 4)

    def test_too_long_is_an_error(self):
        console = begun()
        parts = (("p", (("do", "q", ("put", "y")),)), ("main", (("repeat", 4001, "p"),)))
        keep(console, ("program", PAIRS, parts))
        self.assertEqual(asked(console, "length", "step 4000", "fails", "after 0 q"), ["4001", "q put y", "error", "error"])


if __name__ == "__main__":
    unittest.main()
