"""Promise [16]: where letters go, what is lost, loads that are left and loads ahead, classes that meet, papers."""

import random
import unittest
from itertools import product

from boxeffects.classes import form_in, told_load
from boxeffects.kinds import under_head
from boxeffects.registers import load_left
from boxeffects.signs import class_of, classes_at, depths_of, signs_of
from boxeffects.whereabouts import (
    accepts_merged,
    can_be_left,
    do_meet,
    is_one_to_one,
    load_ahead,
    loses_nothing,
    lost_parts,
    merged_paper,
    terms_behind,
    whereabouts,
)
from moved import DROP, FAIL, QUEUE, STACK, TAPE, WRONG_DESKS, all_words, cases, moved_steps, some_loads
from small import ODD, TOO_MANY, Everything, raised, tapes

ONE = ((("s", STACK),), ("a",))
DRAW, LAY, POP = ("s", ("draw", "a")), ("s", ("lay", "a")), ("s", ("pop", "x"))
ONE_QUEUE = ((("q", QUEUE),), ("a",))
ONE_TAPE = ((("t", TAPE),), ("a",))
LOOK, RIGHT, LAY_T, WRITE = ("t", ("look", "a")), ("t", ("right",)), ("t", ("lay", "a")), ("t", ("write", "x"))
RING = ((("d", DROP),), ("a", "b"))
A, S1, S2, T0, T1 = ("a",), ("s", 1), ("s", 2), ("t", 0), ("t", 1)
CALLS = (terms_behind, whereabouts, lost_parts, loses_nothing, can_be_left, load_ahead)
# In no class anything is lost, and yet one and two letters are led to the same ring.
MEETING = (("is", "a", "x"), ("is", "b", "x"), ("d", ("draw", "a")), ("d", ("lay", "a")), ("d", ("draw", "b")),
           ("d", ("put", "p")), ("d", ("put", "p")))


def letter_at(desk, load, site):
    """The letter of a load at a site, or of a sign."""
    if len(site) == 1:
        return load[1][desk[1].index(site[0])]
    place = [name for name, _ in desk[0]].index(site[0])
    if desk[0][place][1] == TAPE:
        return under_head(load[0][place], site[1])
    return load[0][place][site[1] - (site[1] > 0)]


def bearing_cases(seed, many, most):
    """Desks, rows, depths and the classes in which the row has a form."""
    for draw, desk, row, depths in cases(seed, many, most):
        for cls in classes_at(desk, depths):
            form = form_in(desk, row, depths, cls)
            if form is not None:
                yield draw, desk, row, depths, cls, form


class Whereabouts(unittest.TestCase):
    def test_example_of_the_document(self):
        self.assertEqual(whereabouts(ONE, (DRAW,), (1,), (1,)), {A: ("lost",), S1: ("stands", (A,))})

    def test_terms_beside_plain_runs(self):
        done = 0
        for draw, desk, row, depths, cls, _ in bearing_cases(21, 300, 6):
            terms = terms_behind(desk, row, depths, cls)
            self.assertEqual(list(terms), sorted(terms))
            for load in some_loads(draw, desk, 4):
                left = load_left(desk, row, load)
                if left is None or class_of(desk, depths, load) != cls:
                    continue
                done += 1
                for site, term in terms.items():
                    told = term if isinstance(term, str) else letter_at(desk, load, term)
                    self.assertEqual(letter_at(desk, left, site), told)
        self.assertGreater(done, 1000)

    def test_all_sites_are_told(self):
        for draw, desk, row, depths, cls, form in bearing_cases(22, 200, 6):
            sites = [(name,) for name in desk[1]]
            for (name, kind), part in zip(desk[0], form[1][0]):
                if kind == TAPE:
                    signs = [sign for sign in signs_of(desk, row, depths, cls) if len(sign) == 2 and sign[0] == name]
                    sites += [(name, place - part[0]) for _, place in signs]
                else:
                    sites += [(name, at + 1) for at in range(len(part[0]))] + [(name, -at - 1) for at in range(len(part[1]))]
            self.assertEqual(list(terms_behind(desk, row, depths, cls)), sorted(sites))

    def test_terms_by_hand(self):
        row = (("q", ("draw", "a")), ("q", ("put", "x")), ("q", ("lay", "a")))
        self.assertEqual(terms_behind(ONE_QUEUE, row, (2,), (2,)), {A: ("q", 1), ("q", -2): "x", ("q", -1): ("q", 1), ("q", 1): ("q", 2)})
        self.assertEqual(list(terms_behind(ONE_QUEUE, row, (2,), (2,))), [A, ("q", -2), ("q", -1), ("q", 1)])
        self.assertEqual(terms_behind(ONE_QUEUE, row, (2,), (1,)), {A: ("q", 1), ("q", 1): "x", ("q", 2): ("q", 1)})
        # Sites of tapes are seen from the head behind; places only moved over are none.
        row = (LOOK, RIGHT, RIGHT, WRITE, RIGHT)
        self.assertEqual(terms_behind(ONE_TAPE, row, (0,), (0,)), {A: T0, ("t", -3): T0, ("t", -1): "x"})
        row = (("t", ("expect", "x")), LOOK, RIGHT, LAY_T)
        self.assertEqual(terms_behind(ONE_TAPE, row, (0,), (0,)), {A: "x", ("t", -1): "x", ("t", 0): "x"})

    def test_whereabouts_by_hand(self):
        row = (DRAW, ("s", ("push", "x")), LAY)
        self.assertEqual(whereabouts(ONE, row, (2,), (2,)), {A: ("lost",), S1: ("stands", (A, S1)), S2: ("stands", (("s", 3),))})
        self.assertEqual(whereabouts(ONE, (POP,), (1,), (1,)), {A: ("stands", (A,)), S1: ("known", "x")})
        self.assertEqual(whereabouts(ONE, (("is", "a", "x"), DRAW), (1,), (1,)), {A: ("known", "x"), S1: ("stands", (A,))})
        self.assertEqual(whereabouts(ONE_TAPE, (LOOK, WRITE), (0,), (0,)), {A: ("lost",), T0: ("stands", (A,))})
        self.assertEqual(whereabouts(ONE_TAPE, (WRITE,), (0,), (0,)), {A: ("stands", (A,)), T0: ("lost",)})
        # A sign that is tied to another one stands where the least sign of its part does.
        row = (DRAW, ("copy", "a", "b"), ("s", ("draw", "a")), ("same", "a", "b"), ("copy", "c", "b"), ("copy", "c", "a"))
        desk = (ONE[0], ("a", "b", "c"))
        told = whereabouts(desk, row, (2,), (2,))
        self.assertEqual(told, {A: ("lost",), ("b",): ("lost",), ("c",): ("stands", (A, ("b",), ("c",))), S1: ("lost",), S2: ("lost",)})
        self.assertEqual(lost_parts(desk, row, (2,), (2,)), ((A,), (("b",),), (S1, S2)))
        told = whereabouts(desk, row[:4], (2,), (2,))
        self.assertEqual(told[S2], ("stands", (A, ("b",))))
        self.assertEqual(list(told), [A, ("b",), ("c",), S1, S2])

    def test_letters_that_are_known_or_stand_are_there(self):
        for draw, desk, row, depths, cls, _ in bearing_cases(23, 200, 6):
            found = whereabouts(desk, row, depths, cls)
            self.assertEqual(list(found), signs_of(desk, row, depths, cls))
            for load in some_loads(draw, desk, 3):
                left = load_left(desk, row, load)
                if left is None or class_of(desk, depths, load) != cls:
                    continue
                for sign, told in found.items():
                    if told[0] == "known":
                        self.assertEqual(letter_at(desk, load, sign), told[1])
                    elif told[0] == "stands":
                        self.assertEqual(list(told[1]), sorted(set(told[1])))
                        self.assertEqual({letter_at(desk, left, site) for site in told[1]}, {letter_at(desk, load, sign)})

    def test_lost_parts_counted_by_loads_of_few_letters(self):
        desks = (((("d", DROP),), ("a",)), ((("s", STACK),), ("a",)), ((("q", QUEUE),), ("a",)), ((("t", TAPE),), ("a",)))
        draw = random.Random(24)
        for desk in desks * 25:
            steps = moved_steps(desk)
            row = tuple(draw.choice(steps) for _ in range(draw.randint(0, 5)))
            depths = depths_of(desk, row)
            # Places further off than the row goes stay as they are.
            parts = tapes((-1, 0, 1), "xy")[:8] if desk == desks[3] else all_words("xyz", 0, min(depths[0] + 2, 4))
            if desk == desks[0]:
                parts = all_words("xyz", 0, 2)
            if desk == desks[3] and any(abs(sign[-1]) > 1 for sign in signs_of(desk, row, depths, (0,)) if len(sign) == 2):
                continue
            letters = "xy" if desk == desks[3] else "xyz"
            counts = {}
            for load in product(product(parts), product(letters)):
                left = load_left(desk, row, load)
                if left is not None:
                    counts.setdefault((class_of(desk, depths, load), left), []).append(load)
            for (cls, left), loads in counts.items():
                lost = len(lost_parts(desk, row, depths, cls))
                self.assertEqual(len(loads), len(letters) ** lost)
                self.assertIs(loses_nothing(desk, row, depths, cls), lost == 0)

    def test_loses_nothing_by_hand(self):
        self.assertIs(loses_nothing(ONE, (DRAW,), (1,), (1,)), False)
        self.assertIs(loses_nothing(ONE, (("is", "a", "x"), DRAW), (1,), (1,)), True)
        self.assertIs(loses_nothing(ONE, (LAY, DRAW), (0,), (0,)), True)
        self.assertIs(loses_nothing(ONE, (), (0,), (0,)), True)
        # A place that is written without being read is lost.
        self.assertIs(loses_nothing(ONE_TAPE, (WRITE,), (0,), (0,)), False)
        self.assertIs(loses_nothing(ONE_TAPE, (("t", ("expect", "y")), WRITE), (0,), (0,)), True)
        desk = ((("d", DROP),), ())
        put = (("d", ("put", "x")),)
        self.assertEqual([loses_nothing(desk, put, (0,), (many,)) for many in range(3)], [True, True, False])
        self.assertEqual(lost_parts(desk, put, (0,), (2,)), ((("d", 1),),))


class Ahead(unittest.TestCase):
    def test_there_and_back(self):
        done = 0
        for draw, desk, row, depths, cls, _ in bearing_cases(25, 300, 6):
            found = whereabouts(desk, row, depths, cls)
            for load in some_loads(draw, desk, 3):
                left = load_left(desk, row, load)
                if left is None or class_of(desk, depths, load) != cls:
                    continue
                done += 1
                self.assertIs(can_be_left(desk, row, depths, cls, left), True)
                ahead = load_ahead(desk, row, depths, cls, left)
                self.assertEqual(class_of(desk, depths, ahead), cls)
                self.assertEqual(load_left(desk, row, ahead), left)
                kept = [sign for sign in found if found[sign] != ("lost",)]
                self.assertEqual([letter_at(desk, load, sign) for sign in kept], [letter_at(desk, ahead, sign) for sign in kept])
        self.assertGreater(done, 1000)

    def test_loads_that_are_left_or_not(self):
        found = {True: 0, False: 0}
        for draw, desk, row, depths, cls, _ in bearing_cases(26, 200, 4):
            for load in some_loads(draw, desk, 3):
                told = can_be_left(desk, row, depths, cls, load)
                found[told] += 1
                ahead = load_ahead(desk, row, depths, cls, load)
                self.assertIs(ahead is not None, told)
                if told:
                    self.assertEqual(load_left(desk, row, ahead), load)
        self.assertGreater(min(found.values()), 200)

    def test_all_that_is_left_by_few_letters(self):
        draw = random.Random(27)
        for kind in (STACK, QUEUE, DROP, FAIL):
            desk = ((("b", kind),), ("a",))
            parts = all_words("xy", 0, 2 if kind[0] == "ring" else 4)
            loads = list(product(product(parts), product("xy")))
            for _ in range(20):
                row = tuple(draw.choice(moved_steps(desk)) for _ in range(draw.randint(0, 3)))
                depths = depths_of(desk, row)
                for cls in classes_at(desk, depths):
                    if form_in(desk, row, depths, cls) is None:
                        continue
                    left = {load_left(desk, row, load) for load in loads if class_of(desk, depths, load) == cls}
                    for load in loads:
                        if len(load[0][0]) < 2 or kind[0] == "ring":
                            self.assertIs(can_be_left(desk, row, depths, cls, load), load in left)

    def test_by_hand(self):
        # Lost parts get new letters, none of the row's or of the left load's.
        self.assertEqual(load_ahead(ONE, (DRAW,), (1,), (1,), ((("b",),), ("a",))), ((("a", "b"),), ("c",)))
        self.assertEqual(load_ahead(ONE, (DRAW, ("s", ("push", "c"))), (1,), (1,), ((("c", "b"),), ("a",))), ((("a", "b"),), ("d",)))
        row = (WRITE, RIGHT, WRITE)
        self.assertEqual(load_ahead(ONE_TAPE, row, (0,), (0,), (((((-1, "x"), (0, "x"), (1, "a")), "b"),), ("c",))),
                         (((((0, "d"), (1, "e"), (2, "a")), "b"),), ("c",)))
        self.assertIsNone(load_ahead(ONE_TAPE, row, (0,), (0,), (((((-1, "x"), (0, "y")), "b"),), ("c",))))
        # A written place gets its sign's letter back, also where this is the rest's.
        row = (LOOK, WRITE, RIGHT)
        self.assertEqual(load_ahead(ONE_TAPE, row, (0,), (0,), (((((-1, "x"), (0, "y")), "b"),), ("b",))), (((((1, "y"),), "b"),), ("a",)))
        # Known letters, and one letter at all sites of a part.
        row = (POP, DRAW, LAY)
        self.assertEqual(load_ahead(ONE, row, (2,), (2,), ((("y",), ), ("y",))), ((("x", "y"),), ("a",)))
        self.assertIsNone(load_ahead(ONE, row, (2,), (2,), ((("y",),), ("z",))))
        self.assertIsNone(load_ahead(ONE, row, (2,), (2,), (((),), ("z",))))
        row = (("q", ("put", "x")), ("q", ("draw", "a")))
        self.assertEqual(load_ahead(ONE_QUEUE, row, (1,), (1,), ((("y", "x"),), ("z",))), ((("z", "y"),), ("a",)))
        self.assertIsNone(load_ahead(ONE_QUEUE, row, (1,), (1,), ((("x", "y"),), ("z",))))
        self.assertEqual(load_ahead(ONE_QUEUE, row, (1,), (0,), (((),), ("x",))), (((),), ("a",)))
        self.assertIs(can_be_left(ONE_QUEUE, row, (1,), (0,), ((("x",),), ("x",))), False)

    def test_names_are_no_letters(self):
        # The box s and the register a do not keep a and s from being new letters.
        self.assertEqual(load_ahead(ONE, (DRAW,), (1,), (1,), (((),), ("b",)))[1], ("a",))

    def test_many_new_letters(self):
        letters = tuple(chr(97 + number) for number in range(26)) * 2
        self.assertEqual(load_ahead(ONE, (DRAW,), (1,), (1,), ((letters,), ("a",)))[1], ("aa",))
        many = tuple(first + second for first in " abcdefghijklmnopqrstuvwxyz" for second in letters[:26])
        many = tuple(letter.strip() for letter in many)
        self.assertEqual(load_ahead(ONE, (DRAW,), (1,), (1,), ((many,), ("a",)))[1], ("aaa",))

    def test_loads_of_any_size(self):
        load = ((("x",) * 4000,), ("y",))
        self.assertIs(can_be_left(ONE, (DRAW,), (1,), (1,), load), True)
        self.assertEqual(raised(load_ahead, ONE, (DRAW,), (1,), (1,), load), TOO_MANY)
        self.assertEqual(load_ahead(ONE, (DRAW,), (1,), (1,), ((("x",) * 3999,), ("y",))), ((("y",) + ("x",) * 3999,), ("a",)))
        pairs = tuple((place, "y") for place in range(1, 4001))
        self.assertEqual(raised(load_ahead, ONE_TAPE, (WRITE,), (0,), (0,), (((pairs, "x"),), ("y",))), TOO_MANY)


class Meeting(unittest.TestCase):
    def test_rings_by_drop(self):
        desk = ((("d", DROP),), ())
        self.assertIs(do_meet(desk, (("d", ("put", "x")),), (0,), (1,), (2,)), True)
        self.assertIs(do_meet(desk, (("d", ("put", "x")),), (0,), (2,), (1,)), True)
        self.assertIs(do_meet(desk, (("d", ("put", "x")),), (0,), (0,), (1,)), False)
        self.assertIs(do_meet(desk, (("d", ("put", "x")),) * 2, (0,), (0,), (2,)), True)
        self.assertIs(do_meet(desk, (("d", ("put", "x")), ("d", ("put", "y"))), (0,), (0,), (1,)), True)
        self.assertIs(do_meet(desk, (("d", ("take",)),), (0,), (1,), (2,)), False)
        # Of length 1 the letter that is left is known, of length 2 it is another one.
        row = (("d", ("draw", "a")), ("is", "a", "x"), ("d", ("put", "y")), ("d", ("put", "y")))
        self.assertIs(do_meet(((("d", DROP),), ("a",)), row, (0,), (1,), (2,)), True)
        row = (("d", ("draw", "a")), ("d", ("lay", "a")), ("d", ("draw", "b")), ("same", "a", "b"), ("d", ("put", "y")), ("d", ("put", "y")))
        self.assertIs(do_meet(RING, row, (0,), (1,), (2,)), True)

    def test_what_keeps_classes_from_meeting(self):
        # What is in the registers tells the lengths apart: x is behind one letter, y behind two.
        row = (("d", ("put", "x")), ("d", ("put", "y")), ("d", ("draw", "a")), ("d", ("lay", "a")))
        self.assertIs(do_meet(RING, row, (0,), (0,), (1,)), True)
        row = (("is", "a", "x"), ("is", "b", "y"), ("d", ("draw", "a")), ("d", ("put", "x")), ("d", ("put", "y")))
        self.assertIs(do_meet(RING, row, (0,), (1,), (2,)), True)
        row = (("d", ("draw", "a")), ("d", ("put", "x")), ("d", ("draw", "b")), ("d", ("put", "y")), ("d", ("put", "y")),
               ("is", "a", "z"))
        self.assertIs(do_meet(RING, row, (0,), (1,), (2,)), True)
        # Of length 0 the letter drawn is the second one that was put, of length 1 the first one.
        desk = ((("d", ("ring", 3, "drop")),), ("a", "b"))
        row = (("d", ("put", "x")), ("d", ("put", "y")), ("d", ("take",)), ("d", ("draw", "b"))) + (("d", ("put", "z")),) * 3
        self.assertEqual([form_in(desk, row, (0,), (many,))[1][1][1] for many in (0, 1)], ["y", "x"])
        self.assertIs(do_meet(desk, row, (0,), (0,), (1,)), False)
        row = (("d", ("draw", "a")), ("d", ("lay", "a")), ("d", ("draw", "b")), ("is", "a", "x"), ("d", ("put", "y")), ("d", ("put", "y")),
               ("is", "b", "z"))
        self.assertIsNone(form_in(RING, row, (0,), (1,)))
        self.assertEqual(raised(do_meet, RING, row, (0,), (1,), (2,)), ("NoClass", (1,)))

    def test_beside_plain_runs(self):
        draw = random.Random(28)
        desks = (RING, ((("d", ("ring", 1, "drop")), ("e", ("ring", 1, "drop"))), ("a",)), ((("d", DROP), ("q", QUEUE)), ("a",)),
                 ((("f", FAIL),), ("a",)), ((("d", DROP), ("s", STACK)), ()))
        met = 0
        for desk in desks * 60:
            row = tuple(draw.choice(moved_steps(desk)) for _ in range(draw.randint(0, 5)))
            row = tuple(("is", name, "x") for name in desk[1] if draw.random() < 0.5) + row
            depths = depths_of(desk, row)
            parts = [all_words("xy", 0, kind[1] if kind[0] == "ring" else depth) for (_, kind), depth in zip(desk[0], depths)]
            classes = [cls for cls in classes_at(desk, depths) if form_in(desk, row, depths, cls) is not None]
            ahead = {}
            for load in product(product(*parts), product("xy", repeat=len(desk[1]))):
                left = load_left(desk, row, load)
                if left is not None:
                    ahead.setdefault(left, set()).add(class_of(desk, depths, load))
            for one, other in product(classes, classes):
                if one != other:
                    told = do_meet(desk, row, depths, one, other)
                    self.assertIs(told, do_meet(desk, row, depths, other, one))
                    # These letters are enough: each part that is left over can have the same.
                    self.assertIs(told, any({one, other} <= found for found in ahead.values()))
                    met += told
        self.assertGreater(met, 100)


class Merged(unittest.TestCase):
    def test_one_to_one_beside_plain_runs(self):
        draw = random.Random(29)
        desks = (RING, ONE, ONE_QUEUE, ((("f", FAIL),), ("a",)), ((("d", ("ring", 1, "drop")),), ("a",)))
        found = {True: 0, False: 0}
        for desk in desks * 40:
            row = tuple(draw.choice(moved_steps(desk)) for _ in range(draw.randint(0, 4)))
            row = tuple(("is", name, "x") for name in desk[1] if draw.random() < 0.5) + row
            kind = desk[0][0][1]
            parts = all_words("xy", 0, kind[1] if kind[0] == "ring" else depths_of(desk, row)[0] + 1)
            lefts = [load_left(desk, row, load) for load in product(product(parts), product("xy", repeat=len(desk[1])))]
            lefts = [left for left in lefts if left is not None]
            told = is_one_to_one(desk, row)
            found[told] += 1
            self.assertIs(told, len(set(lefts)) == len(lefts))
            paper = merged_paper(desk, row)
            self.assertIs(paper is None, told)
            if paper is not None:
                self.assertIs(accepts_merged(desk, row, paper), True)
        self.assertGreater(min(found.values()), 20)

    def test_told_of_the_first_class_in_which_something_is_lost(self):
        for _, desk, row, _ in cases(30, 150, 6):
            paper = merged_paper(desk, row)
            depths = depths_of(desk, row)
            losing = [cls for cls in classes_at(desk, depths)
                      if form_in(desk, row, depths, cls) is not None and not loses_nothing(desk, row, depths, cls)]
            if not losing:
                self.assertIs(paper is None, is_one_to_one(desk, row))
                continue
            self.assertEqual(paper[0], "merged")
            self.assertEqual([class_of(desk, depths, load) for load in paper[1:]], [losing[0]] * 2)
            lost = lost_parts(desk, row, depths, losing[0])[0]
            for sign in signs_of(desk, row, depths, losing[0]):
                like = letter_at(desk, paper[1], sign) == letter_at(desk, paper[2], sign)
                self.assertIs(like, sign not in lost)
            if all(kind != TAPE for _, kind in desk[0]):
                self.assertEqual(paper[1], told_load(desk, depths, losing[0], form_in(desk, row, depths, losing[0])))

    def test_by_hand(self):
        self.assertEqual(merged_paper(ONE, (DRAW,)), ("merged", ((("b",),), ("a",)), ((("b",),), ("c",))))
        self.assertIsNone(merged_paper(ONE, (LAY, DRAW)))
        self.assertIsNone(merged_paper(ONE, ()))
        # Nothing is lost in the classes 0 and 1.
        desk = ((("d", DROP),), ())
        self.assertEqual(merged_paper(desk, (("d", ("put", "a")),)), ("merged", ((("b", "c"),), ()), ((("d", "c"),), ())))
        self.assertIs(is_one_to_one(desk, (("d", ("put", "a")),)), False)

    def test_places_of_tapes_that_are_not_in_the_form(self):
        # Place 0 is only written, 1 only looked at for nothing, 2 stands in the register.
        row = (WRITE, RIGHT, LOOK, RIGHT, LOOK)
        load = (((((0, "c"), (1, "d"), (2, "b")), "e"),), ("a",))
        form = form_in(ONE_TAPE, row, (0,), (0,))
        self.assertEqual(told_load(ONE_TAPE, (0,), (0,), form), (((((2, "b"),), "c"),), ("a",)))
        told = merged_paper(ONE_TAPE, row)
        self.assertEqual(told, ("merged", (((((0, "d"), (1, "e"), (2, "b")), "c"),), ("a",)),
                                (((((0, "d"), (1, "e"), (2, "b")), "c"),), ("f",))))
        self.assertNotEqual(told[1], load)
        self.assertIs(accepts_merged(ONE_TAPE, row, told), True)

    def test_two_classes_that_meet(self):
        for cls in ((1,), (2,)):
            self.assertIs(loses_nothing(RING, MEETING, (0,), cls), True)
        self.assertIs(do_meet(RING, MEETING, (0,), (1,), (2,)), True)
        self.assertIs(is_one_to_one(RING, MEETING), False)
        paper = merged_paper(RING, MEETING)
        self.assertIs(accepts_merged(RING, MEETING, paper), True)
        self.assertEqual({len(load[0][0]) for load in paper[1:]}, {1, 2})
        # The same with a tape beside the ring, whose places and rest are alike in both.
        desk = ((("d", DROP), ("t", TAPE)), ("a", "b"))
        row = MEETING + (("t", ("right",)), ("t", ("expect", "x")))
        paper = merged_paper(desk, row)
        self.assertIs(accepts_merged(desk, row, paper), True)
        self.assertEqual({len(load[0][0]) for load in paper[1:]}, {1, 2})

    def test_accepts_right_and_bent_papers(self):
        one, two = ((("b",),), ("a",)), ((("b",),), ("c",))
        for value in (("merged", one, two), ("merged", two, one), ("merged", ((("x", "y"),), ("k",)), ((("x", "y"),), ("l",)))):
            self.assertIs(accepts_merged(ONE, (DRAW,), value), True)
        for value in (
            ("merged", one, one), ("merged", one), ("merged", one, two, two), ["merged", one, two], ("parts", one, two), (None, one, two),
            (Everything(), one, two), ("merged", one, None), ("merged", None, two), ("merged", one, ((("c",),), ("a",))),
            ("merged", (((),), ("a",)), (((),), ("b",))), ("merged", one, ((["b"],), ("c",))), ("merged", one, Everything()),
            ("merged", one, ((("b",), ()), ("c",))), ("merged", ((("b",) * 4001,), ("a",)), ((("b",) * 4001,), ("c",))), None, "merged", *ODD,
        ):
            self.assertIs(accepts_merged(ONE, (DRAW,), value), False)
        # The row must work on both: what it leaves is not what stood ahead of a step that fails.
        desk = ((("d", DROP),), ())
        for loads in (((((),), ()), ((("x",),), ())), (((("x",),), ()), (((),), ()))):
            self.assertIs(accepts_merged(desk, (("d", ("take",)),), ("merged",) + loads), False)
        # The row itself must lead them to one.
        self.assertIs(accepts_merged(ONE, (LAY, DRAW), ("merged", one, two)), False)
        # What is left may be longer than is told.
        full = (("x",) * 4000,)
        row = (("s", ("push", "x")), ("s", ("push", "x")), DRAW)
        self.assertIs(accepts_merged(ONE, row, ("merged", (full, ("a",)), (full, ("b",)))), True)

    def test_more_than_1000_classes(self):
        desk = ((("p", STACK), ("q", QUEUE), ("s", STACK)), ())
        row = (("p", ("pop", "x")),) * 8 + (("q", ("take", "x")),) * 8
        row = row + (("s", ("pop", "x")),) * 8
        self.assertIs(is_one_to_one(desk, row), True)
        wide = ((("d", ("ring", 9, "drop")), ("e", ("ring", 9, "drop")), ("f", ("ring", 10, "drop"))), ())
        for call in (is_one_to_one, merged_paper):
            self.assertEqual(raised(call, wide, ()), ("TooMany", 1000))
        self.assertIs(accepts_merged(wide, (), ("merged", (((), (), ()), ()), ((("x",), (), ()), ()))), False)


class Errors(unittest.TestCase):
    def test_no_desk_ahead_of_all(self):
        odd = object()
        for wrong in WRONG_DESKS:
            for call, many in zip((*CALLS, do_meet, is_one_to_one, merged_paper, accepts_merged), (3, 3, 3, 3, 4, 4, 4, 1, 1, 2)):
                self.assertEqual(raised(call, wrong, *[odd] * many), ("NoBoxes", wrong))

    def check_all(self, error, row, depths, cls):
        for call in CALLS[:4]:
            self.assertEqual(raised(call, ONE, row, depths, cls), error)
        for call in CALLS[4:]:
            self.assertEqual(raised(call, ONE, row, depths, cls, None), error)
        self.assertEqual(raised(do_meet, ONE, row, depths, cls, None), error)

    def test_no_row_no_depths_no_class(self):
        for wrong in (None, [DRAW], DRAW, (("s", ("put", "x")),), (DRAW,) * 25, *ODD):
            self.check_all(("NoRow", wrong), wrong, None, None)
            for call in (is_one_to_one, merged_paper):
                self.assertEqual(raised(call, ONE, wrong), ("NoRow", wrong))
            self.assertEqual(raised(accepts_merged, ONE, wrong, None), ("NoRow", wrong))
        for wrong in (None, (), (0, 0), [1], (49,), (-1,), (True,), (0,), *ODD):
            self.check_all(("NoCount", wrong), (DRAW,), wrong, None)
        for wrong in (None, (), (2,), [1], (-1,), (True,), (1.0,), (0, 0), *ODD):
            self.check_all(("NoClass", wrong), (DRAW,), (1,), wrong)
        # A class in which the row has no form is none here, too.
        self.check_all(("NoClass", (0,)), (DRAW,), (1,), (0,))
        self.check_all(("NoClass", (0,)), (("is", "a", "x"), ("is", "a", "y")), (0,), (0,))

    def test_no_load(self):
        for wrong in (None, (), (((),), ()), ((("A",),), ("a",)), [((),), ("a",)], ((("x",) * 4001,), ("a",)), *ODD):
            for call in (can_be_left, load_ahead):
                self.assertEqual(raised(call, ONE, (DRAW,), (1,), (1,), wrong), ("NoContents", wrong))

    def test_one_class_twice_and_others(self):
        desk = ((("d", DROP),), ("a",))
        draw = (("d", ("draw", "a")),)
        self.assertIs(do_meet(desk, draw, (0,), (1,), (2,)), False)
        self.assertEqual(raised(do_meet, desk, draw, (0,), (1,), (1,)), ("NoClass", (1,)))
        self.assertEqual(raised(do_meet, desk, draw, (0,), (0,), (1,)), ("NoClass", (0,)))
        self.assertEqual(raised(do_meet, desk, draw, (0,), (1,), (0,)), ("NoClass", (0,)))
        for wrong in (None, (), (3,), [1], (True,), (1.0,), *ODD):
            self.assertEqual(raised(do_meet, desk, draw, (0,), (1,), wrong), ("NoClass", wrong))
            self.assertEqual(raised(do_meet, desk, draw, (0,), wrong, wrong), ("NoClass", wrong))


if __name__ == "__main__":
    unittest.main()
