"""Promise [5], and [0.2] (d) of queues: powers up to 10 ** 30, without going through them."""

import time
import unittest
from itertools import product

from boxeffects.queuepowers import (
    endless_contents,
    most_times,
    power_least,
    power_left,
    power_length,
    power_letter,
    power_works,
    powers_alike,
)
from boxeffects.queues import queue_form, queue_left, queue_then, queue_works
from small import TOO_MANY, raised, words
from test_queues import LONG, WRONG_CONTENTS, WRONG_FORMS, WRONG_LENGTHS, small_forms

MOST = 10 ** 30
WRONG_TIMES = (None, 0, -1, True, False, MOST + 1, 1.0, "a", [1])
WRONG_PLACES = (None, -1, True, False, 1.0, "a", [0], -MOST)


def done(form, times):
    """The form so often, one time behind the other."""
    made = form
    for _ in range(times - 1):
        made = queue_then(made, form)
    return made


class SmallTimes(unittest.TestCase):
    def test_least_of_all_small_forms(self):
        for form in small_forms(3):
            made = form
            for times in range(1, 7):
                self.assertEqual(power_least(form, times), made[2], (form, times))
                made = queue_then(made, form)

    def test_least_of_longer_forms(self):
        for u, v in product((tuple("ababa"), tuple("aabaab"), tuple("abab"), tuple("baaba"), tuple("aba")), repeat=2):
            for d in range(len(u) + 1):
                if u[d:] == v[:len(u) - d]:
                    for times in range(1, 9):
                        self.assertEqual(power_least((u, v, d), times), done((u, v, d), times)[2])

    def test_contents(self):
        for form in small_forms(2):
            for times in (1, 2, 3, 5):
                made = done(form, times)
                for contents in words(5):
                    left = queue_left(made, contents)
                    self.assertIs(power_works(form, times, contents), left is not None)
                    self.assertEqual(power_left(form, times, contents), left)
                    self.check_letters(form, times, contents, left)

    def check_letters(self, form, times, contents, left):
        if left is None:
            self.assertIsNone(power_length(form, times, contents))
            self.assertIsNone(power_letter(form, times, contents, 0))
            self.assertIsNone(power_letter(form, times, contents, MOST))
            return
        self.assertEqual(power_length(form, times, contents), len(left))
        told = [power_letter(form, times, contents, index) for index in range(len(left))]
        self.assertEqual(tuple(told), left)
        self.assertEqual(raised(power_letter, form, times, contents, len(left)), ("NoPlace", len(left)))

    def test_doing_the_form_again_and_again(self):
        for form in small_forms(2):
            for contents in words(4):
                left = contents
                for times in range(1, 5):
                    left = None if left is None else queue_left(form, left)
                    self.assertEqual(power_left(form, times, contents), left)

    def test_powers_alike(self):
        forms = small_forms(2)
        for one in forms:
            for times, more in ((1, 1), (1, 2), (2, 1), (2, 3), (3, 2), (4, 2)):
                made = done(one, times)
                for other in forms:
                    self.assertIs(powers_alike(one, times, other, more), made == done(other, more))


class GreatTimes(unittest.TestCase):
    def test_as_much_is_put_as_is_taken(self):
        turn = (("a", "b"), ("a", "b"), 0)
        self.assertEqual(power_least(turn, MOST), 0)
        self.assertEqual(power_left(turn, MOST, ("a", "b", "a", "b")), ("a", "b", "a", "b"))
        self.assertEqual(power_left(turn, MOST, ()), ())
        self.assertIsNone(power_left(turn, MOST, ("b",)))
        # The queue of an odd length is shifted by one: it is borne once, and not twice.
        self.assertEqual(power_left(turn, 1, ("a", "b", "a")), ("a", "a", "b"))
        self.assertIsNone(power_left(turn, 2, ("a", "b", "a")))
        shift = queue_form((("take", "a"), ("put", "b")))
        self.assertEqual(power_least(shift, MOST), MOST)
        self.assertIs(power_works(shift, 3, ("a",) * 3), True)
        self.assertIs(power_works(shift, 4, ("a",) * 3), False)
        swap = (("a", "b"), ("b", "a"), 1)
        self.assertEqual(power_least(swap, MOST), 1)
        self.assertEqual(power_left(swap, MOST, ("a",)), ("a",))
        self.assertEqual(power_left(swap, MOST - 1, ("a", "b", "a")), ("a", "b", "a"))
        self.assertIsNone(power_left(swap, MOST, ("a", "b")))

    def test_more_is_put_than_is_taken(self):
        grow = (("a",), ("a", "a"), 0)
        self.assertEqual(power_least(grow, MOST), 0)
        self.assertEqual(power_length(grow, MOST, ("a",)), MOST + 1)
        self.assertEqual(power_letter(grow, MOST, ("a",), MOST), "a")
        self.assertEqual(raised(power_letter, grow, MOST, ("a",), MOST + 1), ("NoPlace", MOST + 1))
        self.assertEqual(raised(power_left, grow, MOST, ()), TOO_MANY)
        puts = ((), ("a", "b", "c"), 0)
        self.assertEqual(power_least(puts, MOST), 0)
        self.assertEqual(power_length(puts, MOST, ("z",)), 3 * MOST + 1)
        self.assertEqual([power_letter(puts, MOST, ("z",), k) for k in (0, 1, 2, 3, 4)], ["z", "a", "b", "c", "a"])
        self.assertEqual(power_letter(puts, MOST, ("z",), 3 * MOST), "c")
        self.assertEqual(power_letter(puts, MOST, ("z",), 3 * MOST - 1), "b")
        self.assertEqual(raised(power_letter, puts, MOST, ("z",), 3 * MOST + 1), ("NoPlace", 3 * MOST + 1))
        chase = (("a", "b"), ("a", "b", "a", "b"), 0)
        self.assertEqual(power_letter(chase, MOST, (), 2 * MOST - 1), "b")
        self.assertEqual(power_letter(chase, MOST, (), 2 * MOST - 2), "a")
        self.assertEqual(power_letter(grow, MOST, LONG, MOST + 3999), "a")

    def test_less_is_put_than_is_taken(self):
        shrink = (("a", "a"), ("a",), 1)
        # Ahead of the last time one letter is due, and one more for each time ahead of it.
        self.assertEqual(power_least(shrink, MOST), MOST)
        self.assertIs(power_works(shrink, 4000, LONG), True)
        self.assertIs(power_works(shrink, 4001, LONG), False)
        self.assertIs(power_works(shrink, MOST, LONG), False)
        self.assertEqual(power_left(shrink, 4000, LONG), ())
        takes = (("a", "b"), (), 2)
        self.assertEqual(power_least(takes, MOST), 2 * MOST)
        self.assertEqual(power_left(takes, 1999, ("a", "b") * 2000), ("a", "b"))
        self.assertEqual(power_left(takes, 2000, ("a", "b") * 2000), ())
        self.assertIsNone(power_left(takes, 2001, ("a", "b") * 2000))
        self.assertIsNone(power_letter(takes, MOST, (), 0))

    def test_words_that_part_late(self):
        # u and v are alike on some letters only: the least number is near the end of the power.
        u, v = ("a", "a", "b"), ("a", "b", "a")
        form = (u, v, 1)
        self.assertEqual(power_least(form, MOST), 1)
        form = (u, v + ("a", "b"), 1)
        self.assertEqual([power_least(form, times) for times in (1, 2, 3)], [done(form, t)[2] for t in (1, 2, 3)])
        # abaab abaab .. from 1 on is baaba.., from 3 on aba.. : it is aab aab .. on two letters.
        self.assertEqual(power_least((("b", "a"), ("a", "a", "a"), 1), MOST), 2 * MOST - 1)

    def test_the_empty_form(self):
        self.assertEqual(power_least(((), (), 0), MOST), 0)
        self.assertEqual(power_left(((), (), 0), MOST, LONG), LONG)
        self.assertEqual(raised(power_letter, ((), (), 0), MOST, (), 0), ("NoPlace", 0))

    def test_powers_alike(self):
        turn = (("a", "b"), ("a", "b"), 0)
        twice = (("a", "b") * 2, ("a", "b") * 2, 0)
        self.assertIs(powers_alike(turn, MOST, twice, MOST // 2), True)
        self.assertIs(powers_alike(turn, MOST, twice, MOST // 2 - 1), False)
        self.assertIs(powers_alike(turn, MOST, (("b", "a"), ("b", "a"), 0), MOST), False)
        takes = (("a",), (), 1)
        self.assertIs(powers_alike(takes, MOST, (("a", "a"), (), 2), MOST // 2), True)
        self.assertIs(powers_alike(takes, MOST, takes, MOST), True)
        self.assertIs(powers_alike(((), ("a",), 0), MOST, ((), ("a", "a"), 0), MOST), False)
        self.assertIs(powers_alike(((), (), 0), 1, ((), (), 0), MOST), True)
        # Like words, unlike numbers: the one bears the empty contents, the other one does not.
        self.assertIs(powers_alike((("a",), ("a",), 0), MOST, (("a",), ("a",), 1), MOST), False)
        shrink = (("a", "a"), ("a",), 1)
        self.assertIs(powers_alike(shrink, MOST, (("a",) * 4, ("a",) * 2, 2), MOST // 2), True)

    def test_powers_of_one_form(self):
        for form in small_forms(2):
            two, three = done(form, 2), done(form, 3)
            self.assertIs(powers_alike(two, 3 * 10 ** 29, three, 2 * 10 ** 29), True)
            self.assertIs(powers_alike(two, 3 * 10 ** 28, form, 6 * 10 ** 28), True)
            self.assertIs(powers_alike(two, 3, three, 3), form[:2] == ((), ()))

    def test_long_words_do_not_take_long(self):
        begun = time.monotonic()
        u = ("a", "b") * 1999 + ("a", "c")
        # Both words are alike up to the last letter of the first.
        for form in ((LONG, LONG, 0), (LONG, LONG[1:], 1), (LONG[1:], LONG, 0), (u, u, 0), (u, ("a", "b") * 2000, 4000)):
            self.assertEqual(power_least(form, 1), form[2])
            power_least(form, MOST)
            power_works(form, MOST, LONG)
            most_times(form, LONG)
            endless_contents(form, 4000)
            self.assertIs(powers_alike(form, MOST, form, MOST), True)
        self.assertLess(time.monotonic() - begun, 20)
        self.assertEqual(power_least((LONG, LONG[1:], 1), MOST), MOST)
        self.assertEqual(power_least((u, ("a", "b") * 2000, 4000), MOST), 4000 * MOST)
        self.assertEqual(power_letter((u, u, 0), MOST, u, 3999), "c")
        self.assertIsNone(power_letter((u, u, 0), MOST, u[1:], 3998))


class WithoutEnd(unittest.TestCase):
    def test_most_times_beside_the_powers(self):
        for form in small_forms(3)[::2]:
            for contents in words(4):
                most = most_times(form, contents)
                for times in range(1, 12):
                    works = power_works(form, times, contents)
                    self.assertEqual(works, most is None or times <= most, (form, contents, times))
                self.assertEqual(most is None, power_works(form, MOST, contents))

    def test_most_times(self):
        self.assertIsNone(most_times(((), ("a",), 0), ()))
        self.assertIsNone(most_times((("a",), ("a",), 1), ("a",)))
        self.assertEqual(most_times((("a",), ("a",), 1), ()), 0)
        self.assertEqual(most_times((("a",), ("b",), 1), ("b", "a")), 0)
        self.assertEqual(most_times((("a",), ("b", "a"), 1), ("a", "a", "a")), 3)
        self.assertEqual(most_times((("a",), (), 1), LONG), 4000)
        self.assertEqual(most_times((("a", "a"), ("a",), 1), LONG), 4000)

    def test_last_number_of_times_of_long_contents(self):
        # 3999 of the letter, then another one: each time one is taken, and one put.
        contents = ("a",) * 3999 + ("b",)
        self.assertEqual(most_times((("a",), ("a",), 1), contents), 3999)
        self.assertIs(power_works((("a",), ("a",), 1), 3999, contents), True)
        self.assertIs(power_works((("a",), ("a",), 1), 4000, contents), False)

    def test_endless_contents(self):
        for form in small_forms(3)[::2]:
            for length in range(5):
                borne = [word for word in words(length) if len(word) == length and power_works(form, MOST, word)]
                if not form[0]:
                    self.assertEqual(len(borne), 2 ** length)
                    self.assertIsNone(endless_contents(form, length))
                else:
                    self.assertLessEqual(len(borne), 1)
                    self.assertEqual(endless_contents(form, length), borne[0] if borne else None)

    def test_endless_contents_of_some_lengths(self):
        swap = (("a", "b"), ("b", "a"), 1)
        self.assertEqual([endless_contents(swap, k) for k in range(4)], [None, ("a",), None, ("a", "b", "a")])
        self.assertEqual(endless_contents((("a",), ("a",), 0), 4000), LONG)
        self.assertEqual(endless_contents((("a",), ("a",), 0), 0), ())
        self.assertIsNone(endless_contents((("a", "a"), ("a",), 1), 5))
        self.assertIsNone(endless_contents(((), ("a",), 0), 5))


class Errors(unittest.TestCase):
    def test_form_then_times_then_contents(self):
        form = (("a",), ("b",), 1)
        for call, rest in ((power_least, ()), (power_works, (None,)), (power_length, (None,)), (power_left, (None,)),
                           (power_letter, (None, None))):
            for wrong in WRONG_FORMS:
                self.assertEqual(raised(call, wrong, None, *rest), ("NoForm", wrong))
            for wrong in WRONG_TIMES:
                self.assertEqual(raised(call, form, wrong, *rest), ("NoCount", wrong))
            if rest:
                for wrong in WRONG_CONTENTS:
                    self.assertEqual(raised(call, form, 1, wrong, *rest[1:]), ("NoContents", wrong))
            self.assertIsNone(raised(call, form, MOST, *[(), 0][:len(rest)]))

    def test_no_place_ahead_of_none_and_behind_it(self):
        form = (("a",), ("b",), 1)
        for wrong in WRONG_PLACES:
            self.assertEqual(raised(power_letter, form, 1, ("a",), wrong), ("NoPlace", wrong))
            self.assertEqual(raised(power_letter, form, 1, ("b",), wrong), ("NoPlace", wrong))
        self.assertEqual(raised(power_letter, form, 1, ("a",), 1), ("NoPlace", 1))
        self.assertIsNone(power_letter(form, 1, ("b",), 1))

    def test_4000_and_4001_letters(self):
        self.assertEqual(power_left(((), ("a",), 0), 4000, ()), LONG)
        self.assertEqual(raised(power_left, ((), ("a",), 0), 4001, ()), TOO_MANY)
        self.assertIsNone(power_left((("b",), ("b",) * 4000, 0), MOST, ("a",)))
        self.assertEqual(power_left((("a",), ("b", "a"), 1), 2, ("a",) * 3998), ("a",) * 3996 + ("b", "a", "b", "a"))

    def test_powers_alike(self):
        form = (("a",), ("b",), 1)
        for wrong in WRONG_FORMS:
            self.assertEqual(raised(powers_alike, wrong, None, None, None), ("NoForm", wrong))
            self.assertEqual(raised(powers_alike, form, 1, wrong, None), ("NoForm", wrong))
        for wrong in WRONG_TIMES:
            self.assertEqual(raised(powers_alike, form, wrong, None, None), ("NoCount", wrong))
            self.assertEqual(raised(powers_alike, form, 1, form, wrong), ("NoCount", wrong))

    def test_most_times_and_endless_contents(self):
        for wrong in WRONG_FORMS:
            self.assertEqual(raised(most_times, wrong, None), ("NoForm", wrong))
            self.assertEqual(raised(endless_contents, wrong, None), ("NoForm", wrong))
        for wrong in WRONG_CONTENTS:
            self.assertEqual(raised(most_times, ((), (), 0), wrong), ("NoContents", wrong))
        for wrong in WRONG_LENGTHS:
            self.assertEqual(raised(endless_contents, ((), (), 0), wrong), ("NoCount", wrong))


if __name__ == "__main__":
    unittest.main()
