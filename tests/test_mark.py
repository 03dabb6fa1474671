"""Promises 13, 14 and 15: mark, extraction and reduction."""

import unittest
from math import gcd

from tests.helper import call, last, run

LAY = call("lay", 2, 10, 10, 1, 1)
# With these, blood and bath move in each tick, and all of pool 1 is drawn.
BASE = (LAY, call("pool", 10, 10, 0), call("rates", 1, 1, 1, 1))


class Mark(unittest.TestCase):
    def test_answers_0(self):
        told = run(LAY, call("mark"), call("mark"), call("tick", 1), call("mark"), call("lay", 2, 10, 10, 4, 1),
                   call("mark"))
        self.assertEqual(told, [[0], [0], [0], [1], [0], [0], [0]])

    def test_nothing_laid(self):
        self.assertEqual(run(call("mark"), LAY, call("dose", 0, 0, 5), call("reduction", 0)),
                         [[-2], [0], [0], [-8]])

    def test_before_any_tick(self):
        told = run(*BASE, call("dose", 0, 0, 100), call("mark"), call("extraction", 0), call("reduction", 0),
                   call("tick", 1), call("extraction", 0), call("reduction", 0))
        self.assertEqual(told[-6:], [[0], [-8], [0, 0, 1], [1], [0, 1, 1], [0, 1, 1]])

    def test_counts_anew_between_ticks(self):
        base = (*BASE, call("share", 0, 1000), call("dose", 0, 0, 100), call("tick", 3))
        self.assertEqual(last(*base, call("extraction", 0)), [0, 1, 2])
        marked = (*base, call("mark"))
        self.assertEqual(last(*marked, call("extraction", 0)), [-8])
        # The 50 that came back go in once more; half of them stay behind, and these 25 come out two ticks later.
        for ticks, wanted in ((1, [0, 1, 1]), (2, [0, 1, 1]), (3, [0, 1, 2])):
            self.assertEqual(last(*marked, call("tick", ticks), call("extraction", 0)), wanted)
        # Without the mark it is 100 and 50 that went in, and 50 and 25 that came out.
        self.assertEqual(last(*base, call("tick", 1), call("extraction", 0)), [0, 2, 3])
        self.assertEqual(last(*base, call("tick", 3), call("extraction", 0)), [0, 1, 2])

    def test_what_came_out_is_counted_anew(self):
        base = (*BASE, call("dose", 0, 0, 100), call("tick", 3))
        self.assertEqual(last(*base, call("extraction", 0)), [0, 0, 1])
        # In the fourth tick 100 go in again; of what came out before nothing is counted.
        self.assertEqual(last(*base, call("tick", 1), call("extraction", 0)), [0, 1, 2])
        self.assertEqual(last(*base, call("mark"), call("tick", 1), call("extraction", 0)), [0, 1, 1])

    def test_twice(self):
        base = (*BASE, call("dose", 0, 0, 100), call("mark"), call("dose", 0, 0, 300))
        self.assertEqual(last(*base, call("reduction", 0)), [0, -3, 1])
        self.assertEqual(last(*base, call("mark"), call("reduction", 0)), [0, 0, 1])
        self.assertEqual(last(*base, call("mark"), call("dose", 0, 0, 100), call("reduction", 0)), [0, -1, 4])
        self.assertEqual(last(*base, call("mark"), call("mark"), call("tick", 1), call("reduction", 0)), [0, 1, 1])

    def test_a_later_mark_may_hold_nothing(self):
        told = run(*BASE, call("dose", 0, 0, 100), call("mark"), call("tick", 1), call("reduction", 0), call("mark"),
                   call("reduction", 0), call("dose", 0, 0, 1), call("reduction", 0))
        self.assertEqual(told[-5:], [[0, 1, 1], [0], [-8], [0], [-8]])

    def test_each_solute(self):
        for k in range(1, 5):
            base = [call("lay", 2, 10, 10, k, 1), *BASE[1:]]
            base += [call("dose", j, 0, 10 * (j + 1)) for j in range(k)] + [call("tick", 1)]
            base += [call("dose", j, 0, j + 2) for j in range(k)] + [call("mark")]
            for name in ("extraction", "reduction"):
                told = run(*base, *[call(name, j) for j in range(k)])[-k:]
                self.assertEqual(told, [[-8]] * k if name == "extraction" else [[0, 0, 1]] * k)
            more = [call("dose", j, 0, 1) for j in range(k)]
            told = run(*base, *more, *[call("reduction", j) for j in range(k)])[-k:]
            self.assertEqual(told, [[0, -1, j + 2] for j in range(k)])
            told = run(*base, call("tick", 2), *[call("extraction", j) for j in range(k)])[-k:]
            # j + 2 went in, and 10 (j + 1) of before the mark came out.
            self.assertEqual(told, [shortened(j + 2 - 10 * (j + 1), j + 2) for j in range(k)])

    def test_a_new_laying_leaves_what_is_since_the_mark(self):
        base = (*BASE, call("share", 0, 500), call("dose", 0, 0, 1000), call("mark"), call("tick", 4))
        ask = (call("extraction", 0), call("reduction", 0))
        before = run(*base, *ask)[-2:]
        self.assertEqual([len(one) for one in before], [3, 3])
        self.assertEqual(run(*base, call("lay", 3, 5, 7, 2, 0), *ask)[-2:], before)
        # What was in the old cells never comes out: 1000 and 625 went in, and 625 came out.
        self.assertEqual(before[0], [0, 8, 13])

    def test_without_a_mark_a_new_laying_leaves_what_is_since_the_beginning(self):
        base = (*BASE, call("dose", 0, 0, 100), call("tick", 3))
        self.assertEqual(last(*base, LAY, call("extraction", 0)), [0, 0, 1])
        self.assertEqual(last(*base, LAY, call("tick", 1), call("extraction", 0)), [0, 1, 2])

    def test_solutes_that_come_behind_the_mark(self):
        told = run(*BASE, call("dose", 0, 0, 100), call("mark"), call("lay", 2, 10, 10, 2, 1), call("dose", 1, 0, 60),
                   call("reduction", 0), call("reduction", 1), call("extraction", 1), call("tick", 1),
                   call("reduction", 1), call("extraction", 1))
        self.assertEqual(told[-6:], [[0, 0, 1], [-8], [-8], [1], [-8], [0, 1, 1]])


def shortened(part, whole):
    by = gcd(part, whole)
    return [0, part // by, whole // by]


class Extraction(unittest.TestCase):
    def test_nothing_went_in(self):
        self.assertEqual(last(LAY, call("extraction", 0)), [-8])
        self.assertEqual(last(LAY, call("dose", 0, 0, 100), call("tick", 600), call("extraction", 0)), [-8])
        self.assertEqual(last(*BASE, call("dose", 0, 1, 100), call("tick", 600), call("extraction", 0)), [-8])
        self.assertEqual(last(*BASE, call("dose", 0, 0, 100), call("tick", 1), call("mark"), call("extraction", 0)),
                         [-8])

    def test_nothing_went_in_though_something_came_out(self):
        base = (*BASE, call("dose", 0, 0, 100), call("tick", 1), call("mark"))
        # In the third tick 100 come out while pool 1 is empty; in the fourth they go in again.
        self.assertEqual(last(*base, call("tick", 2), call("extraction", 0)), [-8])
        self.assertEqual(last(*base, call("tick", 3), call("extraction", 0)), [0, 0, 1])

    def test_all_of_it(self):
        base = (*BASE, call("dose", 0, 0, 100))
        self.assertEqual(last(*base, call("tick", 1), call("extraction", 0)), [0, 1, 1])
        self.assertEqual(last(*base, call("tick", 2), call("extraction", 0)), [0, 1, 1])

    def test_none_of_it(self):
        self.assertEqual(last(*BASE, call("dose", 0, 0, 100), call("tick", 3), call("extraction", 0)), [0, 0, 1])

    def test_lowest_terms(self):
        base = (call("lay", 2, 10, 30, 1, 1), *BASE[1:], call("share", 0, 1000))
        # Of 1000, 250 are left beside a bath of three times the volume, and come out in the third tick.
        self.assertEqual(last(*base, call("dose", 0, 0, 1000), call("tick", 3), call("extraction", 0)), [0, 3, 4])
        # Of 1003, 1003 * 30 / 40 = 752 cross.
        self.assertEqual(last(*base, call("dose", 0, 0, 1003), call("tick", 3), call("extraction", 0)), [0, 752, 1003])

    def test_what_goes_round_went_in_and_came_out(self):
        base = (*BASE, call("dose", 0, 0, 1007), call("round", 250), call("tick", 3))
        # 805, 161 and 201 + 32 went in; 805 came out.
        self.assertEqual(last(*base, call("extraction", 0)), [0, 394, 1199])
        alone = (*BASE, call("dose", 0, 0, 500), call("tick", 1), call("round", 1000), call("mark"), call("tick", 2))
        # Where all goes round, as much goes in as has come out, though some of it crosses in between.
        self.assertEqual(last(*alone, call("extraction", 0)), [0, 0, 1])
        self.assertEqual(last(*alone, call("share", 0, 1000), call("tick", 2), call("extraction", 0)), [0, 0, 1])

    def test_below_0(self):
        base = (*BASE, call("dose", 0, 0, 100), call("tick", 1), call("mark"), call("dose", 0, 0, 30), call("tick", 2))
        self.assertEqual(last(*base, call("extraction", 0)), [0, -7, 3])
        # The fresh bath gives 45 to the 10 that went in, and these 55 come out.
        base = (*BASE, call("share", 0, 1000), call("fresh", 0, 100), call("dose", 0, 0, 10), call("tick", 3))
        self.assertEqual(last(*base, call("extraction", 0)), [0, -9, 2])

    def test_below_0_over_1(self):
        base = (*BASE, call("dose", 0, 0, 100), call("tick", 1), call("mark"), call("dose", 0, 0, 20), call("tick", 2))
        self.assertEqual(last(*base, call("extraction", 0)), [0, -4, 1])

    def test_large(self):
        full = [call("dose", 0, 0, 1000000000)] * 10
        base = (*BASE, *full, call("tick", 1), call("mark"), call("lay", 2, 10, 10, 2, 1))
        self.assertEqual(last(*base, call("extraction", 0)), [-8])
        base = (*BASE, *full, call("share", 0, 999), call("tick", 3))
        self.assertEqual(last(*base, call("extraction", 0)), shortened(came_behind(10 ** 10), 10 ** 10))


def came_behind(mass):
    """What stays behind of a mass that goes through two cells beside an empty bath that goes along with it."""
    blood, bath = mass, 0
    for cell in range(2):
        gone = (blood * 10 - bath * 10) * 999 // 20000
        blood, bath = blood - gone, bath + gone
    return mass - blood


class Reduction(unittest.TestCase):
    def test_no_mark(self):
        self.assertEqual(last(LAY, call("reduction", 0)), [-8])
        self.assertEqual(last(*BASE, call("dose", 0, 0, 100), call("reduction", 0)), [-8])
        self.assertEqual(last(*BASE, call("dose", 0, 0, 100), call("tick", 3), call("reduction", 0)), [-8])

    def test_a_mark_while_pool_1_held_nothing(self):
        self.assertEqual(last(LAY, call("mark"), call("reduction", 0)), [-8])
        self.assertEqual(last(LAY, call("mark"), call("dose", 0, 0, 100), call("reduction", 0)), [-8])
        self.assertEqual(last(LAY, call("dose", 0, 1, 100), call("mark"), call("reduction", 0)), [-8])

    def test_nothing_gone(self):
        base = (*BASE, call("dose", 0, 0, 100), call("mark"))
        self.assertEqual(last(*base, call("reduction", 0)), [0, 0, 1])
        # All of it is drawn, and all of it comes back in the third tick.
        self.assertEqual(last(*base, call("tick", 3), call("reduction", 0)), [0, 0, 1])

    def test_all_gone(self):
        base = (*BASE, call("dose", 0, 0, 100), call("mark"), call("tick", 1))
        self.assertEqual(last(*base, call("reduction", 0)), [0, 1, 1])

    def test_lowest_terms(self):
        base = (LAY, call("pool", 40, 0, 0), call("rates", 1, 1, 0, 1), call("dose", 0, 0, 1000), call("mark"))
        self.assertEqual(last(*base, call("tick", 1), call("reduction", 0)), [0, 1, 4])
        # Of 750, 187 are drawn.
        self.assertEqual(last(*base, call("tick", 2), call("reduction", 0)), [0, 437, 1000])

    def test_to_pool_2(self):
        base = (LAY, call("pool", 10, 30, 500), call("dose", 0, 0, 1000), call("mark"), call("tick", 1))
        self.assertEqual(last(*base, call("reduction", 0)), [0, 3, 8])

    def test_below_0(self):
        base = (LAY, call("dose", 0, 0, 100), call("mark"))
        self.assertEqual(last(*base, call("dose", 0, 0, 50), call("reduction", 0)), [0, -1, 2])
        self.assertEqual(last(*base, call("dose", 0, 0, 7), call("reduction", 0)), [0, -7, 100])
        self.assertEqual(last(*base, call("dose", 0, 1, 7), call("reduction", 0)), [0, 0, 1])

    def test_large(self):
        most = [call("dose", 0, 0, 1000000000)] * 9
        told = last(LAY, call("dose", 0, 0, 1), call("mark"), *most, call("reduction", 0))
        self.assertEqual(told, [0, -9 * 10 ** 9, 1])
        told = last(*BASE, *most, call("dose", 0, 0, 999999999), call("mark"), call("dose", 0, 0, 1),
                    call("reduction", 0))
        self.assertEqual(told, [0, -1, 9999999999])

    def test_asking_changes_nothing(self):
        base = (*BASE, call("dose", 0, 0, 100), call("mark"), call("tick", 1))
        told = run(*base, *[call("reduction", 0), call("extraction", 0)] * 3, call("tick", 2), call("reduction", 0))
        self.assertEqual(told[-8:], [[0, 1, 1]] * 6 + [[3], [0, 0, 1]])


if __name__ == "__main__":
    unittest.main()
