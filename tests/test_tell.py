"""Promises 10, 11, 12, 16 and 17: bath, patient, totals, profile and look."""

import unittest

from tests.helper import call, last, run

STILL = call("rates", 0, 1, 0, 1)
# With these, blood and bath move in each tick, and all of pool 1 is drawn.
BOTH = (call("pool", 10, 0, 0), call("rates", 1, 1, 1, 1))
# With these, blood moves in each tick and draws all of pool 1, and the bath stays.
DRAW = (call("pool", 10, 0, 0), call("rates", 1, 1, 0, 1))
# All there is: both pools dosed, something produced, and both sides move and exchange.
FLOW = (call("lay", 2, 10, 10, 1, 1), call("pool", 10, 10, 0), call("rates", 1, 1, 1, 1), call("fresh", 0, 60),
        call("dose", 0, 0, 100), call("dose", 0, 1, 30), call("produce", 0, 7), call("share", 0, 500))


def baths(n, *calls):
    """What is in the n bath cells behind the calls, a list of the solutes' for each."""
    return run(*calls, *[call("bath", i) for i in range(n)])[-n:]


class Bath(unittest.TestCase):
    def test_each_cell_of_each_solute_along_and_against(self):
        for k in range(1, 5):
            for n in (2, 5, 32):
                steps = []
                for step in range(1, n + 1):
                    steps += [call("fresh", j, 1000 * j + step) for j in range(k)] + [call("tick", 1)]
                along = baths(n, call("lay", n, 10, 10, k, 1), call("rates", 0, 1, 1, 1), *steps)
                self.assertEqual(along, [[1000 * j + n - i for j in range(k)] for i in range(n)])
                against = baths(n, call("lay", n, 10, 10, k, 0), call("rates", 0, 1, 1, 1), *steps)
                self.assertEqual(against, [[1000 * j + i + 1 for j in range(k)] for i in range(n)])

    def test_what_has_crossed(self):
        base = (call("lay", 2, 10, 30, 1, 1), *DRAW, call("share", 0, 500), call("dose", 0, 0, 1000))
        self.assertEqual(baths(2, *base), [[0], [0]])
        self.assertEqual(baths(2, *base, call("tick", 1)), [[375], [0]])
        # 46 go back to the blood in cell 0; 625 * 30 * 500 / 40000 = 234 cross in cell 1.
        self.assertEqual(baths(2, *base, call("tick", 2)), [[329], [234]])

    def test_fresh_holds_nothing_until_it_comes(self):
        base = (call("lay", 2, 10, 10, 2, 1), call("fresh", 1, 1000000))
        self.assertEqual(baths(2, *base, call("tick", 600)), [[0, 0], [0, 0]])
        self.assertEqual(baths(2, *base, call("rates", 0, 1, 1, 1), call("tick", 1)), [[0, 1000000], [0, 0]])

    def test_empty_behind_a_new_laying(self):
        base = (call("lay", 2, 10, 10, 1, 1), call("rates", 0, 1, 1, 1), call("fresh", 0, 7), call("tick", 2))
        self.assertEqual(baths(2, *base), [[7], [7]])
        self.assertEqual(baths(3, *base, call("lay", 3, 10, 10, 2, 1)), [[0, 0]] * 3)

    def test_asking_changes_nothing(self):
        told = run(*FLOW, call("tick", 1), call("bath", 0), call("bath", 0), call("bath", 1), call("tick", 1))
        self.assertEqual(told[-4:], [[70], [70], [0], [2]])


class Patient(unittest.TestCase):
    def test_both_pools_of_each_solute(self):
        for k in range(1, 5):
            base = [call("lay", 2, 10, 10, k, 0)]
            self.assertEqual(last(*base, call("patient")), [0, 0] * k)
            for j in range(k):
                base += [call("dose", j, 0, 10 + j), call("dose", j, 1, 20 + j), call("dose", j, 0, 100)]
            self.assertEqual(last(*base, call("patient")), [number for j in range(k) for number in (110 + j, 20 + j)])

    def test_behind_ticks(self):
        base = (call("lay", 2, 10, 10, 1, 0), call("pool", 10, 30, 500), call("dose", 0, 0, 1000))
        # 1000 * 30 * 500 / 40000 = 375 go to pool 2, then (625 * 30 - 375 * 10) * 500 / 40000 = 187.
        self.assertEqual(last(*base, call("tick", 1), call("patient")), [625, 375])
        self.assertEqual(last(*base, call("tick", 2), call("patient")), [438, 562])
        grown = (*base, call("produce", 0, 40), call("tick", 1), call("patient"))
        # 40 come into pool 2 first: (1000 * 30 - 40 * 10) * 500 / 40000 = 370.
        self.assertEqual(last(*grown), [630, 410])

    def test_drawn_and_come_back(self):
        base = (call("lay", 2, 10, 10, 1, 0), call("pool", 33, 0, 0), call("rates", 1, 1, 0, 1),
                call("dose", 0, 0, 100))
        for ticks, in1 in ((1, 70), (2, 49), (3, 49 - 14 + 30)):
            self.assertEqual(last(*base, call("tick", ticks), call("patient")), [in1, 0])

    def test_a_new_laying_leaves_the_pools(self):
        base = (call("lay", 2, 10, 10, 1, 0), call("dose", 0, 0, 5), call("dose", 0, 1, 6))
        self.assertEqual(last(*base, call("lay", 4, 1, 1, 1, 1), call("patient")), [5, 6])
        self.assertEqual(last(*base, call("lay", 4, 1, 1, 3, 1), call("patient")), [5, 6, 0, 0, 0, 0])

    def test_new_volumes_leave_the_masses(self):
        base = (call("lay", 2, 10, 10, 1, 0), call("dose", 0, 0, 5), call("dose", 0, 1, 6), call("pool", 10, 0, 1000))
        self.assertEqual(last(*base, call("patient")), [5, 6])


class Totals(unittest.TestCase):
    def test_worked_out(self):
        wanted = (
            [130, 7, 60, 0, 0, 0, 37, 90, 70],
            # 15 come from the fresh 60 beside empty blood; 90 beside 70 lose 5.
            [130, 14, 120, 0, 0, 0, 44, 100, 120],
            # 85 come back to pool 1 and 75 are spent; then 15 and 7 come from the bath.
            [130, 21, 180, 75, 0, 85, 51, 37, 83],
        )
        self.assertEqual(last(*FLOW, call("totals", 0)), [130, 0, 0, 0, 0, 100, 30, 0, 0])
        for ticks in (1, 2, 3):
            self.assertEqual(last(*FLOW, call("tick", ticks), call("totals", 0)), wanted[ticks - 1])

    def test_thrown_away_by_a_new_laying(self):
        told = run(*FLOW, call("tick", 3), call("lay", 3, 10, 10, 2, 0), call("totals", 0), call("totals", 1),
                   call("lay", 2, 10, 10, 2, 1), call("totals", 0))
        behind = [130, 21, 180, 75, 120, 85, 51, 0, 0]
        self.assertEqual(told[-4:], [behind, [0] * 9, [0], behind])

    def test_what_was_thrown_away_adds_up(self):
        lay = call("lay", 2, 10, 10, 1, 1)
        base = (lay, call("rates", 0, 1, 1, 1), call("fresh", 0, 50), call("tick", 2), lay, call("tick", 1))
        self.assertEqual(last(*base, call("totals", 0)), [0, 0, 150, 0, 100, 0, 0, 0, 50])
        self.assertEqual(last(*base, lay, call("totals", 0)), [0, 0, 150, 0, 150, 0, 0, 0, 0])

    def test_blood_alone_and_bath_alone_are_thrown_away(self):
        lay = call("lay", 2, 10, 10, 1, 1)
        self.assertEqual(last(lay, *DRAW, call("dose", 0, 0, 9), call("tick", 1), lay, call("totals", 0)),
                         [9, 0, 0, 0, 9, 0, 0, 0, 0])
        self.assertEqual(last(lay, *BOTH, call("fresh", 0, 8), call("tick", 1), lay, call("totals", 0)),
                         [0, 0, 8, 0, 8, 0, 0, 0, 0])

    def test_spent_at_the_end_that_the_bath_goes_to(self):
        for along in (0, 1):
            base = (call("lay", 2, 10, 10, 1, along), call("rates", 0, 1, 1, 1), call("fresh", 0, 100),
                    call("tick", 1), call("fresh", 0, 20), call("tick", 1), call("fresh", 0, 9))
            self.assertEqual(last(*base, call("totals", 0)), [0, 0, 120, 0, 0, 0, 0, 0, 120])
            self.assertEqual(last(*base, call("tick", 1), call("totals", 0)), [0, 0, 129, 100, 0, 0, 0, 0, 29])
            self.assertEqual(last(*base, call("tick", 2), call("totals", 0)), [0, 0, 138, 120, 0, 0, 0, 0, 18])

    def test_of_the_solute_that_is_asked_for(self):
        base = [call("lay", 2, 10, 10, 4, 1)]
        for j in range(4):
            base += [call("dose", j, 0, 10 + j), call("dose", j, 1, 20 + j), call("produce", j, 30 + j)]
        told = run(*base, call("tick", 1), *[call("totals", j) for j in range(4)])[-4:]
        self.assertEqual(told, [[30 + 2 * j, 30 + j, 0, 0, 0, 10 + j, 50 + 2 * j, 0, 0] for j in range(4)])

    def test_a_mark_leaves_the_totals(self):
        told = run(*FLOW, call("tick", 3), call("mark"), call("totals", 0))
        self.assertEqual(told[-1], [130, 21, 180, 75, 0, 85, 51, 37, 83])

    def test_the_most_that_can_be_given(self):
        full = [call("dose", 0, at % 2, 1000000000) for at in range(10)]
        told = last(call("lay", 2, 10, 10, 1, 1), *full, call("dose", 0, 0, 1), call("totals", 0))
        self.assertEqual(told, [10 ** 10, 0, 0, 0, 0, 5 * 10 ** 9, 5 * 10 ** 9, 0, 0])

    def test_nothing_is_lost(self):
        ask = [call("totals", j) for j in range(3)]
        calls = [call("lay", 5, 11, 7, 3, 0), call("pool", 41, 103, 219), call("rates", 5, 7, 3, 4),
                 call("round", 333), call("share", 0, 777), call("share", 1, 21), call("share", 2, 1000),
                 call("fresh", 1, 1003), call("produce", 0, 17), call("dose", 0, 0, 99999), call("dose", 1, 1, 4711)]
        for ticks in (1, 2, 3, 50, 600):
            calls += [call("tick", ticks), *ask, call("fresh", 2, ticks), call("dose", 2, 0, ticks), *ask]
            calls += [call("lay", 3 + ticks % 7, 41, 1 + ticks, 3, ticks % 2), *ask, call("mark"), call("tick", 9)]
            calls += ask
        told = [one for one in run(*calls) if len(one) == 9]
        self.assertEqual(len(told), 60)
        for one in told:
            self.assertEqual(sum(one[:3]), sum(one[3:]))
            self.assertGreaterEqual(min(one), 0)
        self.assertGreater(min(max(column) for column in zip(*told)), 0)


class Profile(unittest.TestCase):
    def test_blood_cells_then_bath_cells(self):
        for n in (2, 3, 32):
            steps = []
            for step in range(1, n + 1):
                steps += [call("dose", 1, 0, step), call("fresh", 1, 1000 + step), call("tick", 1)]
            blood = [n - i for i in range(n)]
            along = (call("lay", n, 10, 10, 2, 1), *BOTH, *steps)
            self.assertEqual(last(*along, call("profile", 1)), blood + [1000 + n - i for i in range(n)])
            self.assertEqual(last(*along, call("profile", 0)), [0] * (2 * n))
            against = (call("lay", n, 10, 10, 2, 0), *BOTH, *steps)
            self.assertEqual(last(*against, call("profile", 1)), blood + [1001 + i for i in range(n)])

    def test_of_each_solute(self):
        for k in range(1, 5):
            base = [call("lay", 2, 10, 10, k, 1), *BOTH]
            for j in range(k):
                base += [call("dose", j, 0, 10 + j), call("fresh", j, 20 + j)]
            told = run(*base, call("tick", 1), *[call("profile", j) for j in range(k)])[-k:]
            self.assertEqual(told, [[10 + j, 0, 20 + j, 0] for j in range(k)])

    def test_as_blood_and_bath_tell(self):
        for n in (2, 32):
            base = (call("lay", n, 10, 7, 1, 0), call("pool", 37, 91, 77), call("rates", 3, 4, 5, 9),
                    call("share", 0, 333), call("fresh", 0, 55), call("dose", 0, 0, 10007), call("tick", 40))
            told = run(*base, *[call("blood", i) for i in range(n)], *[call("bath", i) for i in range(n)],
                       call("profile", 0))
            self.assertEqual(told[-1], [one[0] for one in told[-1 - 2 * n:-1]])
            self.assertGreater(min(told[-1][:2]), 0)

    def test_behind_a_new_laying(self):
        told = run(*FLOW, call("tick", 3), call("profile", 0), call("lay", 32, 10, 10, 1, 0), call("profile", 0))
        self.assertEqual(told[-3:], [[15, 22, 45, 38], [0], [0] * 64])


class Look(unittest.TestCase):
    def test_at_first(self):
        self.assertEqual(last(call("lay", 3, 4, 5, 2, 1), call("look")), [3, 4, 5, 2, 0, 0, 0, 1000000, 1000000, 0, 0])
        self.assertEqual(last(call("lay", 2, 1, 1, 1, 0), call("look")), [2, 1, 1, 1, 0, 0, 0, 1000000, 1000000, 0, 0])
        self.assertEqual(last(call("lay", 32, 10000, 9999, 4, 0), call("look")),
                         [32, 10000, 9999, 4, 0, 0, 0, 1000000, 1000000, 0, 0])

    def test_gathered_parts_and_ticks(self):
        base = (call("lay", 3, 4, 5, 2, 1), call("rates", 3, 7, 2, 5))
        self.assertEqual(last(*base, call("look"))[4:7], [0, 0, 0])
        for ticks, blood, bath in ((1, 3, 2), (2, 6, 4), (3, 2, 1), (4, 5, 3), (5, 1, 0), (6, 4, 2), (7, 0, 4)):
            self.assertEqual(last(*base, call("tick", ticks), call("look"))[4:7], [blood, bath, ticks])

    def test_gathered_parts_at_their_ends(self):
        base = (call("lay", 3, 4, 5, 2, 1), call("rates", 999, 1000, 1, 1000), call("tick", 1))
        self.assertEqual(last(*base, call("look"))[4:7], [999, 1, 1])
        self.assertEqual(last(*base, call("tick", 399), call("tick", 600), call("look"))[4:7], [0, 0, 1000])
        full = (call("lay", 3, 4, 5, 2, 1), call("rates", 1000, 1000, 7, 7), call("tick", 1))
        self.assertEqual(last(*full, call("look"))[4:7], [0, 0, 1])

    def test_rates_set_gathered_parts_to_0(self):
        told = last(call("lay", 3, 4, 5, 2, 1), call("rates", 3, 7, 2, 5), call("tick", 1), call("rates", 3, 7, 2, 5),
                    call("look"))
        self.assertEqual(told[4:7], [0, 0, 1])

    def test_pool_and_round(self):
        base = (call("lay", 3, 4, 5, 2, 1), call("pool", 70, 80, 90), call("round", 60))
        self.assertEqual(last(*base, call("look")), [3, 4, 5, 2, 0, 0, 0, 70, 80, 90, 60])
        told = last(*base, call("pool", 1000000, 0, 1000), call("round", 1000), call("look"))
        self.assertEqual(told, [3, 4, 5, 2, 0, 0, 0, 1000000, 0, 1000, 1000])

    def test_behind_a_new_laying(self):
        base = (call("lay", 3, 4, 5, 2, 1), call("pool", 70, 80, 90), call("round", 60), call("rates", 3, 7, 2, 5),
                call("tick", 4))
        self.assertEqual(last(*base, call("look")), [3, 4, 5, 2, 5, 3, 4, 70, 80, 90, 60])
        told = last(*base, call("lay", 2, 70, 9, 4, 0), call("look"))
        self.assertEqual(told, [2, 70, 9, 4, 0, 0, 4, 70, 80, 90, 60])

    def test_behind_refused_calls(self):
        base = (call("lay", 3, 4, 5, 2, 1), call("pool", 70, 80, 90), call("rates", 3, 7, 2, 5), call("tick", 4))
        refused = (call("lay", 2, 71, 9, 2, 0), call("lay", 2, 1, 9, 1, 0), call("lay", 33, 1, 1, 4, 0),
                   call("rates", 2, 1, 1, 1), call("pool", 3, 1, 1), call("round", 1001), call("tick", 601))
        told = run(*base, *refused, call("look"))
        self.assertEqual(told[-8:-1], [[-5], [-4], [-1], [-1], [-5], [-1], [-1]])
        self.assertEqual(told[-1], [3, 4, 5, 2, 5, 3, 4, 70, 80, 90, 0])

    def test_up_to_20000_ticks(self):
        told = last(call("lay", 2, 1, 1, 1, 0), *[call("tick", 600)] * 33, call("tick", 200), call("tick", 1),
                    call("look"))
        self.assertEqual(told[6], 20000)


if __name__ == "__main__":
    unittest.main()
