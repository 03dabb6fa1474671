"""bloodbath.device.answers: what goes in, what comes back, and what it leaves alone."""

import contextlib
import io
import sys
import unittest

import bloodbath.device
from bloodbath.device import answers
from tests.helper import call

FULL = [0, 32, 100, 200, 4, 0, 3, 1, 1, 1, 1, 4, 5000, 20000, 100]
EVERY_TELLING = [9, 1, 10, 1, 11, 12, 0, 14, 0, 15, 0, 16, 0, 17, 18, 5, 0]


class Watched(list):
    """A list that tells of any try to change it."""

    def refuse(self, *numbers, **named):
        raise AssertionError("the list handed in was changed")

    append = extend = insert = remove = pop = clear = sort = reverse = refuse
    __setitem__ = __delitem__ = __iadd__ = __imul__ = refuse


class Interface(unittest.TestCase):
    def test_flat_in_and_flat_out(self):
        self.assertEqual(bloodbath.device.answers([9, 0]), [1, -2])
        self.assertEqual(answers([0, 2, 10, 10, 3, 0, 9, 1, 8, 5, 9, 2]), [1, 0, 3, 0, 0, 0, 1, 5, 1, -3])

    def test_calls_with_no_numbers_stand_alone(self):
        self.assertEqual(answers([11]), [1, -2])
        self.assertEqual(answers([13, 17, 11]), [1, -2] * 3)
        self.assertEqual(answers([0, 2, 3, 4, 1, 0, 11, 13, 17, 11]),
                         [1, 0, 2, 0, 0, 1, 0, 11, 2, 3, 4, 1, 0, 0, 0, 1000000, 1000000, 0, 0, 2, 0, 0])

    def test_answers_have_no_counts_of_their_own(self):
        told = answers([0, 2, 10, 10, 2, 1, 5, 0, 0, 7, 5, 1, 1, 9, 10, 0, 11, 12, 1, 13, 15, 0, 14, 0, 16, 1,
                        18, 1, 0])
        self.assertEqual(told, [1, 0, 1, 0, 1, 0, 2, 0, 0, 4, 7, 0, 0, 9, 9, 9, 0, 0, 0, 0, 0, 9, 0, 0, 1, 0,
                                3, 0, 0, 1, 1, -8, 4, 0, 0, 0, 0, 9, 7, 0, 0, 0, 0, 7, 0, 0, 0])

    def test_numbers_are_whole_numbers_in_a_list(self):
        told = answers([*FULL, 1, 0, 5, 5, 0, 0, 9, 13, 8, 3, 9, 0, 7, 1001, *EVERY_TELLING])
        self.assertIs(type(told), list)
        self.assertEqual({type(number) for number in told}, {int})

    def test_what_is_handed_in_is_not_changed_for_a_while_either(self):
        calls = [*FULL, 5, 0, 0, 1000, 8, 600, 9, 0, 9, 31, *EVERY_TELLING, 13, 8, 1, *EVERY_TELLING, 0, 2, 1, 1, 4, 1,
                 9, 1, 9, 2, *EVERY_TELLING]
        self.assertEqual(answers(Watched(calls)), answers(calls))

    def test_nothing_is_kept(self):
        calls = [*FULL, 5, 0, 0, 1000, 8, 600, 13, 8, 3, 9, 0, *EVERY_TELLING]
        first = answers(calls)
        first.append(5)
        self.assertEqual(answers([9, 0]), [1, -2])
        self.assertEqual(answers([8, 1]), [1, -2])
        self.assertEqual(answers([17, 13]), [1, -2, 1, -2])
        self.assertEqual(answers(calls), first[:-1])

    def test_nothing_is_printed_or_imported(self):
        shown = io.StringIO()
        before = set(sys.modules)
        with contextlib.redirect_stdout(shown), contextlib.redirect_stderr(shown):
            answers([*FULL, 5, 0, 0, 1000, 8, 600, 9, 0, 9, 32, 13, *EVERY_TELLING])
        self.assertEqual(shown.getvalue(), "")
        self.assertEqual(set(sys.modules), before)

    def test_as_many_calls_as_there_may_be(self):
        told = answers([*FULL, *[9, 0] * 397])
        self.assertEqual(told, [1, 0] * 3 + [4, 0, 0, 0, 0] * 397)
        told = answers([*FULL, *[16, 3] * 397])
        self.assertEqual(told, [1, 0] * 3 + [64, *[0] * 64] * 397)
        self.assertEqual(answers([11] * 400), [1, -2] * 400)

    def test_as_much_work_as_there_may_be(self):
        calls = list(FULL)
        for j in range(4):
            calls += [*call("share", j, 300 + j), *call("dose", j, 0, 10 ** 9), *call("fresh", j, 10 ** 6)]
        calls += [8, 600] * 33 + [8, 200, 8, 1]
        self.assertEqual(answers(calls)[-4:], [1, 20000, 1, -7])
        calls += [18, 600, 3] * 350
        told = answers(calls)
        self.assertEqual(told[-3500:], told[-10:] * 350)
        self.assertEqual(told[-10:-8], [9, 10 ** 9])


if __name__ == "__main__":
    unittest.main()
