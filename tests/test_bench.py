"""Promise [20]: deeds done and taken back, contents at moments, forms between them, trials, twins."""

import random
import unittest

from boxeffects.bench import Bench
from boxeffects.several import Boxes, all_left, joined_mixed, mixed_form, mixed_left
from small import ALL_KINDS, KIND_STEPS, ODD, SOME_CONTENTS, TOO_MANY, Everything, raised

STACK, QUEUE, FAIL, STOP = ("stack",), ("queue",), ("gauge", 9, "fail"), ("gauge", 9, "stop")
PAIRS = (("s", STACK), ("g", FAIL), ("q", QUEUE))
BOXES = Boxes(PAIRS)
START = ((), 3, ("z",))
PUSH, POP = ("s", ("push", "a")), ("s", ("pop", "a"))
ADD, SUB, PUT, TAKE = ("g", ("add", 1)), ("g", ("sub", 1)), ("q", ("put", "b")), ("q", ("take", "z"))
TRILLION = 10 ** 12


def fresh(contents=START):
    return Bench(BOXES, contents)


def with_deeds(*rows):
    made = fresh()
    for row in rows:
        made.do(row)
    return made


def touched(deed):
    return {name for name, _ in deed[1]}


class Model:
    """A bench by its words: the line of deeds, done anew from the first contents each time it is asked."""

    def __init__(self, boxes, contents):
        self.boxes, self.start, self.line, self.undone = boxes, contents, [], []

    def states(self, line=None):
        states = [self.start]
        for deed in self.line if line is None else line:
            left = states[-1]
            for _ in range(deed[2] if deed[0] == "repeat" else 1):
                left = None if left is None else all_left(self.boxes, deed[1], left)
            states.append(left)
        return states

    def append(self, deed):
        if self.states(self.line + [deed])[-1] is None:
            return ("NoWork", None)
        self.line.append(deed)
        return None

    def done(self, deed):
        told = self.append(deed)
        if told is None:
            self.undone = []
        return told

    def undo(self):
        if not self.line:
            return ("NothingBack", "undo")
        self.undone.append(self.line.pop())
        return None

    def redo(self):
        if not self.undone:
            return ("NothingBack", "redo")
        told = self.append(self.undone[-1])
        if told is None:
            self.undone.pop()
        return told

    def undo_of(self, name):
        last = [place for place, deed in enumerate(self.line) if name in touched(deed)][-1:]
        if not last or any(touched(self.line[last[0]]) & touched(deed) for deed in self.line[last[0] + 1:]):
            return ("NothingBack", name)
        self.undone.append(self.line.pop(last[0]))
        return None


class Deeds(unittest.TestCase):
    def test_do_and_repeat(self):
        made = fresh()
        self.assertIsNone(made.do((PUSH, ADD)))
        self.assertEqual(made.now(), (("a",), 4, ("z",)))
        made.repeat((PUSH, ADD, PUT), 3)
        self.assertEqual(made.now(), (("a",) * 4, 7, ("z", "b", "b", "b")))
        self.assertEqual(made.deeds(), [("row", (PUSH, ADD)), ("repeat", (PUSH, ADD, PUT), 3)])
        self.assertEqual([made.was(moment) for moment in range(3)], [START, (("a",), 4, ("z",)), made.now()])
        self.assertEqual(len(made), 2)
        self.assertEqual(made.boxes(), BOXES)
        # A row done and the row repeated once are unlike deeds, an empty row is one, too.
        made.repeat((), TRILLION)
        made.do(())
        made.repeat((), 1)
        self.assertEqual(made.deeds()[2:], [("repeat", (), TRILLION), ("row", ()), ("repeat", (), 1)])
        self.assertEqual(made.was(2), made.now())

    def test_beside_plain_contents(self):
        draw = random.Random(81)
        for _ in range(120):
            pairs = tuple((name, draw.choice(ALL_KINDS)) for name in "abc"[:draw.randint(1, 3)])
            contents = tuple(draw.choice(SOME_CONTENTS[kind]) for _, kind in pairs)
            made, model = Bench(Boxes(pairs), contents), Model(Boxes(pairs), contents)
            for _ in range(25):
                row = tuple((name, draw.choice(KIND_STEPS[kind[0]])) for name, kind in [draw.choice(pairs) for _ in range(draw.randint(0, 3))])
                name = draw.choice(pairs)[0]
                choice = draw.randrange(8)
                if choice < 3:
                    self.assertEqual(raised(made.do, row), model.done(("row", row)))
                elif choice == 3:
                    times = draw.randint(1, 4)
                    self.assertEqual(raised(made.repeat, row, times), model.done(("repeat", row, times)))
                elif choice == 4:
                    self.assertEqual(raised(made.undo), model.undo())
                elif choice == 5:
                    self.assertEqual(raised(made.redo), model.redo())
                else:
                    self.assertEqual(raised(made.undo_of, name), model.undo_of(name))
                self.assertEqual(made.deeds(), model.line)
                self.assertEqual([made.was(moment) for moment in range(len(model.line) + 1)], model.states())
                self.assertEqual((made.now(), len(made)), (model.states()[-1], len(model.line)))

    def test_refused_and_nothing_of_it_done(self):
        made = with_deeds((PUSH,))
        made.do((ADD,))
        made.undo()
        held = made.twin()
        self.assertEqual(raised(made.do, (PUSH, ADD, POP, POP, POP)), ("NoWork", None))
        self.assertEqual(raised(made.repeat, (ADD,), 7), ("NoWork", None))
        self.assertEqual(raised(made.repeat, (PUSH, ("s", ("pop", "b"))), 1), ("NoWork", None))
        self.assertEqual(raised(made.do, (TAKE, TAKE)), ("NoWork", None))
        self.assertEqual(made, held)
        # What can be done again stays, too.
        made.redo()
        self.assertEqual(made.now(), (("a",), 4, ("z",)))

    def test_no_work_ahead_of_too_many(self):
        made = fresh((("a",) * 3999, 3, ()))
        self.assertEqual(raised(made.do, (PUSH, PUSH)), TOO_MANY)
        self.assertEqual(raised(made.do, (PUSH, PUSH, ("g", ("add", 7)))), ("NoWork", None))
        self.assertEqual(raised(made.repeat, (PUSH,), 2), TOO_MANY)
        self.assertEqual(raised(made.repeat, (PUSH, ADD), TRILLION), ("NoWork", None))
        self.assertEqual(raised(made.repeat, (PUSH, PUT), TRILLION), TOO_MANY)
        self.assertEqual(made.deeds(), [])
        # Sizes on the way are not asked.
        made.do((PUSH,) * 30 + (POP,) * 30)
        made.repeat((PUSH, PUSH, POP), 1)
        self.assertEqual(len(made.now()[0]), 4000)
        made.repeat((PUSH, PUSH, POP, POP), TRILLION)
        self.assertEqual(raised(made.do, (PUSH,)), TOO_MANY)
        self.assertEqual(len(made), 3)

    def test_great_repeats(self):
        made = fresh((("a",), 3, ("z", "b")))
        made.repeat((PUSH, POP, ADD, SUB, ("q", ("take", "z")), ("q", ("put", "z")), ("q", ("take", "b")), ("q", ("put", "b"))), TRILLION)
        self.assertEqual(made.now(), (("a",), 3, ("z", "b")))
        boxes = Boxes([("h", ("heap",)), ("t", ("tape",)), ("k", STOP)])
        made = Bench(boxes, ((4,), ((), "x"), 0))
        made.repeat((("h", ("insert", 1)), ("h", ("least",)), ("t", ("right",)), ("k", ("add", 2)), ("k", ("sub", 1))), TRILLION)
        made.do((("t", ("write", "y")),))
        self.assertEqual(made.now(), ((4,), (((0, "y"),), "x"), 8))
        self.assertEqual(made.form_between(0, 1)[1], (TRILLION, (), ()))
        made.repeat((("t", ("left",)),), TRILLION)
        self.assertEqual(made.now()[1], (((TRILLION, "y"),), "x"))
        self.assertEqual(raised(made.repeat, (("h", ("least",)),), 2), ("NoWork", None))

    def test_wrong_rows_and_times(self):
        made = fresh()
        for row in (None, [PUSH], PUSH, (("s", ("put", "a")),), (("x", ("push", "a")),), (PUSH,) * 61, (("s", "push"),), "ab", (Everything(),)):
            self.assertEqual(raised(made.do, row), ("NoRow", row))
            self.assertEqual(raised(made.repeat, row, None), ("NoRow", row))
        for times in (0, -1, TRILLION + 1, None, "1", *ODD):
            self.assertEqual(raised(made.repeat, (POP,), times), ("NoCount", times))
        self.assertEqual(made, fresh())

    def test_made_of_boxes_and_contents(self):
        for value in (None, PAIRS, "ab", *ODD):
            self.assertEqual(raised(Bench, value, None), ("NoBoxes", value))
        for value in (None, START[:2], list(START), ((), 10, ()), ((), True, ()), (["a"], 0, ()), *ODD):
            self.assertEqual(raised(Bench, BOXES, value), ("NoContents", value))


class Back(unittest.TestCase):
    def test_undo_and_redo(self):
        made = with_deeds((PUSH,), (ADD,), (PUT,))
        made.undo()
        made.undo()
        self.assertEqual((made.now(), made.deeds()), ((("a",), 3, ("z",)), [("row", (PUSH,))]))
        made.redo()
        self.assertEqual(made.deeds(), [("row", (PUSH,)), ("row", (ADD,))])
        made.redo()
        self.assertEqual(made, with_deeds((PUSH,), (ADD,), (PUT,)))
        self.assertEqual(raised(made.redo), ("NothingBack", "redo"))
        for _ in range(3):
            made.undo()
        self.assertEqual(raised(made.undo), ("NothingBack", "undo"))
        self.assertEqual(made.now(), START)
        # Until another deed is done.
        made.redo()
        made.do((SUB,))
        self.assertEqual(raised(made.redo), ("NothingBack", "redo"))

    def test_undo_of_a_box(self):
        made = with_deeds((PUSH,), (ADD,), (PUT,), (ADD, PUT))
        # The last deed that touches the stack: the deeds behind it touch no stack.
        made.undo_of("s")
        self.assertEqual(made.deeds(), [("row", (ADD,)), ("row", (PUT,)), ("row", (ADD, PUT))])
        self.assertEqual([made.was(moment) for moment in range(4)],
                         [START, ((), 4, ("z",)), ((), 4, ("z", "b")), ((), 5, ("z", "b", "b"))])
        self.assertEqual(raised(made.undo_of, "s"), ("NothingBack", "s"))
        # It is the deed that was taken back last: redo does it behind the line.
        made.redo()
        self.assertEqual(made.deeds()[-1], ("row", (PUSH,)))
        self.assertEqual(made.now(), (("a",), 5, ("z", "b", "b")))
        made.undo_of("q")
        self.assertEqual(made.deeds(), [("row", (ADD,)), ("row", (PUT,)), ("row", (PUSH,))])
        self.assertEqual(made.now(), (("a",), 4, ("z", "b")))

    def test_what_hangs_on_it(self):
        made = with_deeds((PUSH, ADD), (ADD,))
        self.assertEqual(raised(made.undo_of, "s"), ("NothingBack", "s"))
        self.assertEqual(raised(made.undo_of, "q"), ("NothingBack", "q"))
        made.undo_of("g")
        made.undo_of("s")
        self.assertEqual(made.deeds(), [])
        made.redo()
        made.redo()
        self.assertEqual(made, with_deeds((PUSH, ADD), (ADD,)))
        # An empty row touches no box, so it keeps none.
        made = with_deeds((PUSH,), ())
        made.undo_of("s")
        self.assertEqual(made.deeds(), [("row", ())])
        for name in ("g", "s"):
            self.assertEqual(raised(made.undo_of, name), ("NothingBack", name))

    def test_done_again_in_the_order_in_which_they_were_taken_back(self):
        made = with_deeds((TAKE,), (PUSH,), (POP,), (ADD,))
        made.undo()
        made.undo_of("s")
        made.undo_of("s")
        self.assertEqual((made.now(), made.deeds()), (((), 3, ()), [("row", (TAKE,))]))
        made.redo()
        self.assertEqual(made.now(), (("a",), 3, ()))
        made.redo()
        made.redo()
        self.assertEqual(made, with_deeds((TAKE,), (PUSH,), (POP,), (ADD,)))
        # At the ends of the gauge and of what is told each deed works again, as its boxes are what they were.
        made = Bench(Boxes([("g", FAIL), ("s", STACK)]), (9, ("a",) * 3999))
        for row in ((SUB,), (PUSH,), (ADD,), (POP,)):
            made.do(row)
        for name in ("g", "s", "g", "s"):
            made.undo_of(name)
        for contents in ((9, ("a",) * 4000), (8, ("a",) * 4000), (8, ("a",) * 3999), (9, ("a",) * 3999)):
            made.redo()
            self.assertEqual(made.now(), contents)
        self.assertEqual(made.deeds(), [("row", (PUSH,)), ("row", (SUB,)), ("row", (POP,)), ("row", (ADD,))])

    def test_wrong_names(self):
        made = with_deeds((PUSH,))
        for name in (None, "x", "S", ["s"], 1, ("s",), *ODD):
            self.assertEqual(raised(made.undo_of, name), ("NoBox", name))
        self.assertEqual(len(made), 1)


class Moments(unittest.TestCase):
    def test_wrong_moments(self):
        made = with_deeds((PUSH,), (ADD,))
        for moment in (-1, 3, None, "1", 1.0, *ODD):
            self.assertEqual(raised(made.was, moment), ("NoPlace", moment))
            self.assertEqual(raised(made.form_between, moment, None), ("NoPlace", moment))
            self.assertEqual(raised(made.form_between, 0, moment), ("NoPlace", moment))
        self.assertEqual(raised(made.form_between, 2, 1), ("NoPlace", 1))
        self.assertEqual(made.was(2), made.now())

    def test_form_between_leads_from_the_one_to_the_other(self):
        draw = random.Random(82)
        for _ in range(60):
            pairs = tuple((name, draw.choice(ALL_KINDS)) for name in "ab")
            boxes = Boxes(pairs)
            made = Bench(boxes, tuple(draw.choice(SOME_CONTENTS[kind]) for _, kind in pairs))
            for _ in range(12):
                row = tuple((name, draw.choice(KIND_STEPS[kind[0]])) for name, kind in [draw.choice(pairs) for _ in range(2)])
                raised(made.repeat, row, draw.randint(1, 3)) if draw.random() < 0.4 else raised(made.do, row)
            many = len(made)
            for one in range(many + 1):
                form = mixed_form(boxes, ())
                for other in range(one, many + 1):
                    if other > one:
                        deed = made.deeds()[other - 1]
                        for _ in range(deed[2] if deed[0] == "repeat" else 1):
                            form = joined_mixed(boxes, form, mixed_form(boxes, deed[1]))
                    self.assertEqual(made.form_between(one, other), form)
                    self.assertEqual(mixed_left(boxes, form, made.was(one)), made.was(other))

    def test_forms_that_are_too_long(self):
        made = fresh()
        for step in (PUSH, POP, PUSH):
            made.repeat((step,), 3000)
        made.repeat((PUSH, POP), TRILLION)
        self.assertEqual(made.form_between(0, 2)[0], ((), ()))
        self.assertEqual(made.form_between(1, 3)[0], (("a",) * 3000, ("a",) * 3000))
        made.repeat((PUSH,), 1000)
        self.assertIsNone(raised(made.form_between, 0, 5))
        self.assertEqual(len(made.form_between(2, 5)[0][1]), 4000)
        made.repeat((POP,), 500)
        made.repeat((PUT,), 3000)
        made.repeat((TAKE,), 1)
        made.repeat((("q", ("take", "b")),), 3000)
        made.repeat((("q", ("put", "c")), ("q", ("take", "c"))), TRILLION)
        self.assertEqual(raised(made.form_between, 9, 10), TOO_MANY)
        self.assertEqual(raised(made.form_between, 0, 10), TOO_MANY)
        self.assertIsNone(raised(made.form_between, 0, 9))
        made.undo()
        made.repeat((PUT, PUT), 1000)
        self.assertEqual(raised(made.form_between, 0, 10), TOO_MANY)
        self.assertIsNone(raised(made.form_between, 7, 10))


class Trying(unittest.TestCase):
    def test_not_kept(self):
        made = with_deeds((PUSH,), (ADD,))
        made.undo()
        held = made.twin()

        def guest(bench):
            self.assertIs(bench, made)
            self.assertEqual(len(bench), 0)
            self.assertEqual(raised(bench.undo), ("NothingBack", "undo"))
            self.assertEqual(raised(bench.redo), ("NothingBack", "redo"))
            self.assertEqual(raised(bench.undo_of, "s"), ("NothingBack", "s"))
            bench.do((SUB,))
            bench.do((PUT,))
            # Moments are counted through.
            self.assertEqual([bench.was(moment) for moment in range(4)], [START, (("a",), 3, ("z",)), (("a",), 2, ("z",)), (("a",), 2, ("z", "b"))])
            self.assertEqual((len(bench), len(bench.deeds())), (2, 3))
            bench.undo_of("g")
            self.assertEqual(bench.now(), (("a",), 3, ("z", "b")))
            bench.redo()
            bench.undo()
            self.assertEqual(len(bench), 1)
            return "told"

        self.assertEqual(made.trying(guest), "told")
        self.assertEqual((made, made.now(), len(made)), (held, held.now(), 1))
        # What can be done again is as it was, too.
        made.redo()
        self.assertEqual(made, with_deeds((PUSH,), (ADD,)))
        self.assertEqual(raised(made.redo), ("NothingBack", "redo"))

    def test_kept(self):
        made = with_deeds((PUSH,), (ADD,))
        made.undo()

        def guest(bench):
            bench.do((SUB,))
            bench.do((PUT,))
            bench.do((PUT,))
            bench.undo()

        self.assertIsNone(made.trying(guest, kept=True))
        self.assertEqual(made, with_deeds((PUSH,), (SUB,), (PUT,)))
        self.assertEqual(len(made), 3)
        self.assertEqual(raised(made.redo), ("NothingBack", "redo"))
        made.undo()
        made.undo()
        made.undo()
        self.assertEqual(made.now(), START)

    def test_kept_without_deeds(self):
        made = with_deeds((PUSH,), (ADD,))
        made.undo()
        made.trying(len, kept=True)
        self.assertEqual(made, with_deeds((PUSH,)))
        self.assertEqual(raised(made.redo), ("NothingBack", "redo"))

    def test_only_true_keeps(self):
        for kept in (1, "yes", None, 0, [1], Everything()):
            made = fresh()
            made.trying(lambda bench: bench.do((PUSH,)), kept=kept)
            self.assertEqual(made, fresh())

    def test_left_by_an_error(self):
        class Odd(Exception):
            pass

        for error in (Odd, KeyError, KeyboardInterrupt):
            made = with_deeds((PUSH,))

            def guest(bench):
                bench.do((ADD,))
                raise error("told")

            with self.assertRaises(error):
                made.trying(guest, kept=True)
            self.assertEqual((made, len(made)), (with_deeds((PUSH,)), 1))
        self.assertEqual(raised(made.trying, lambda bench: bench.do((("g", ("add", 9)),)), kept=True), ("NoWork", None))
        made.undo()
        made.trying(lambda bench: raised(bench.do, (POP,)))
        made.redo()
        self.assertEqual(made, with_deeds((PUSH,)))

    def test_one_within_another(self):
        for outer, inner, deeds in ((True, True, 3), (True, False, 2), (False, True, 1), (False, False, 1)):
            made = with_deeds((PUSH,))

            def within(bench):
                self.assertEqual(len(bench), 0)
                bench.do((PUT,))
                self.assertEqual(raised(bench.undo_of, "g"), ("NothingBack", "g"))
                return len(bench)

            def guest(bench):
                bench.do((ADD,))
                bench.do((ADD,))
                bench.undo()
                self.assertEqual(bench.trying(within, kept=inner), 1)
                self.assertEqual(len(bench), 2 if inner else 1)
                if inner:
                    self.assertEqual(raised(bench.redo), ("NothingBack", "redo"))
                else:
                    bench.redo()
                    bench.undo()

            made.trying(guest, kept=outer)
            self.assertEqual(len(made), deeds)
            self.assertEqual(made.deeds(), [("row", (PUSH,)), ("row", (ADD,)), ("row", (PUT,))][:deeds])

    def test_an_inner_error_that_is_caught(self):
        made = fresh()

        def broken(bench):
            bench.do((ADD,))
            raise KeyError("told")

        def guest(bench):
            bench.do((PUSH,))
            with self.assertRaises(KeyError):
                bench.trying(broken, kept=True)
            self.assertEqual(bench.deeds(), [("row", (PUSH,))])
            bench.undo()

        made.trying(guest, kept=True)
        self.assertEqual(made, fresh())


class Twins(unittest.TestCase):
    def test_goes_on_by_itself(self):
        made = with_deeds((PUSH,), (ADD,), (PUT,))
        made.undo()
        twin = made.twin()
        self.assertEqual((twin, twin.now(), len(twin)), (made, made.now(), 2))
        twin.redo()
        self.assertEqual(twin, with_deeds((PUSH,), (ADD,), (PUT,)))
        self.assertNotEqual(twin, made)
        made.redo()
        made.undo_of("s")
        self.assertEqual(len(twin), 3)
        self.assertEqual(twin.now(), (("a",), 4, ("z", "b")))

    def test_of_a_trial(self):
        made = with_deeds((PUSH,), (ADD,))
        made.undo()

        def guest(bench):
            bench.do((PUT,))
            bench.do((TAKE,))
            bench.undo()
            return bench.twin()

        twin = made.trying(guest)
        # All its deeds can be taken back, and what was taken back in the trial done again.
        self.assertEqual(len(twin), 2)
        twin.redo()
        self.assertEqual(twin, with_deeds((PUSH,), (PUT,), (TAKE,)))
        for _ in range(3):
            twin.undo()
        self.assertEqual(twin.now(), START)
        self.assertEqual(made, with_deeds((PUSH,)))

    def test_equality(self):
        made = with_deeds((PUSH,))
        self.assertEqual(made, with_deeds((PUSH,)))
        # What can be done again does not count.
        other = with_deeds((PUSH,), (ADD,))
        other.undo()
        self.assertEqual(made, other)
        once = fresh()
        once.repeat((PUSH,), 1)
        for other in (once, fresh(), fresh((("b",), 3, ("z",))), with_deeds((PUSH,), ()), with_deeds((ADD,)),
                      Bench(Boxes(PAIRS[:1]), ((),)), None, 1, made.deeds()):
            self.assertNotEqual(made, other)
        self.assertNotEqual(fresh(), Bench(Boxes([("s", STACK), ("g", STOP), ("q", QUEUE)]), START))


if __name__ == "__main__":
    unittest.main()
