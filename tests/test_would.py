"""Promise 18: what totals would answer behind some ticks."""

import unittest

from tests.helper import all_told, call, last, run

FLOW = (call("lay", 2, 10, 10, 1, 1), call("pool", 10, 10, 0), call("rates", 1, 1, 1, 1), call("fresh", 0, 60),
        call("dose", 0, 0, 100), call("dose", 0, 1, 30), call("produce", 0, 7), call("share", 0, 500))


def rich(n, along):
    """Three solutes in the middle of it all, with parts gathered, a mark, and something thrown away."""
    return (call("lay", 2, 5, 5, 2, 1), call("pool", 37, 91, 77), call("rates", 3, 4, 5, 9), call("round", 130),
            call("share", 0, 333), call("share", 1, 801), call("fresh", 0, 55), call("produce", 1, 13),
            call("dose", 0, 0, 10007), call("dose", 1, 1, 20011), call("tick", 6), call("lay", n, 10, 7, 3, along),
            call("dose", 2, 0, 777), call("fresh", 2, 9), call("share", 2, 1000), call("mark"), call("tick", 5))


class Would(unittest.TestCase):
    def test_worked_out(self):
        told = run(*FLOW, call("would", 1, 0), call("would", 2, 0), call("would", 3, 0), call("totals", 0))[-4:]
        self.assertEqual(told, [[130, 7, 60, 0, 0, 0, 37, 90, 70], [130, 14, 120, 0, 0, 0, 44, 100, 120],
                                [130, 21, 180, 75, 0, 85, 51, 37, 83], [130, 0, 0, 0, 0, 100, 30, 0, 0]])

    def test_nothing_there(self):
        self.assertEqual(last(call("lay", 2, 1, 1, 1, 0), call("would", 600, 0)), [0] * 9)

    def test_as_totals_behind_that_many_ticks(self):
        for n in (2, 5, 32):
            for along in (0, 1):
                base = rich(n, along)
                for ticks in (1, 2, 3, 4, 9, 40, 599, 600):
                    for j in range(3):
                        ahead = last(*base, call("would", ticks, j))
                        self.assertEqual(ahead, last(*base, call("tick", ticks), call("totals", j)), (n, ticks, j))

    def test_goes_on_from_the_gathered_parts(self):
        base = (call("lay", 2, 10, 10, 1, 1), call("pool", 10, 0, 0), call("rates", 2, 3, 1, 4), call("fresh", 0, 5),
                call("dose", 0, 0, 100))
        # Blood moves in the ticks 2, 3, 5 and 6, the bath in the ticks 4 and 8.
        self.assertEqual(last(*base, call("would", 1, 0)), [100, 0, 0, 0, 0, 100, 0, 0, 0])
        self.assertEqual(last(*base, call("tick", 1), call("would", 1, 0)), [100, 0, 0, 0, 0, 0, 0, 100, 0])
        self.assertEqual(last(*base, call("tick", 3), call("would", 1, 0)), [100, 0, 5, 0, 0, 0, 0, 100, 5])
        self.assertEqual(last(*base, call("tick", 4), call("would", 3, 0)), [100, 0, 5, 0, 0, 0, 0, 100, 5])
        self.assertEqual(last(*base, call("tick", 4), call("would", 4, 0)), [100, 0, 10, 0, 0, 0, 0, 100, 10])

    def test_nothing_is_changed(self):
        for along in (0, 1):
            base = rich(5, along)
            ask = all_told(5, 3)
            before = run(*base, *ask)[len(base):]
            behind = run(*base, *ask, call("tick", 7), *ask, call("mark"), call("tick", 8), *ask)[len(base):]
            for ticks, j in ((1, 0), (2, 1), (3, 2), (600, 0), (600, 2)):
                would = call("would", ticks, j)
                self.assertEqual(run(*base, would, *ask)[len(base) + 1:], before)
                told = run(*base, would, *ask, would, call("tick", 7), would, *ask, call("mark"), would,
                           call("tick", 8), would, *ask)
                plain = [one for at, one in enumerate(told[len(base):]) if at not in spots(len(ask))]
                self.assertEqual(plain, behind)

    def test_asked_again_it_is_the_same(self):
        told = run(*rich(5, 0), *[call("would", 50, 1), call("would", 3, 0)] * 20)[-40:]
        self.assertEqual(told, told[:2] * 20)

    def test_ticks_are_not_counted(self):
        told = run(*FLOW, call("would", 600, 0), call("look"), call("tick", 1), call("would", 600, 0), call("tick", 1))
        self.assertEqual((told[-4][6], told[-3], told[-1]), (0, [1], [2]))

    def test_whatever_the_ticks_so_far(self):
        lay = call("lay", 2, 10, 10, 1, 1)
        idle = (lay, *[call("tick", 600)] * 33)
        for more in (150, 199, 200):
            base = (*idle, call("tick", more), *FLOW)
            for ticks in (1, 2, 3, 50, 51, 600):
                wanted = last(*FLOW, call("tick", ticks), call("totals", 0))
                self.assertEqual(last(*base, call("would", ticks, 0)), wanted)
        told = run(*idle, call("tick", 200), *FLOW, call("would", 3, 0), call("tick", 1), call("would", 600, 0),
                   call("look"), call("totals", 0))[-5:]
        self.assertEqual(told[0], [130, 21, 180, 75, 0, 85, 51, 37, 83])
        self.assertEqual((told[1], len(told[2]), told[3][6]), ([-7], 9, 20000))
        self.assertEqual(told[4], [130, 0, 0, 0, 0, 100, 30, 0, 0])

    def test_of_the_solute_that_is_asked_for(self):
        base = [call("lay", 2, 10, 10, 4, 1)]
        for j in range(4):
            base += [call("dose", j, 0, 10 + j), call("dose", j, 1, 20 + j), call("produce", j, 30 + j)]
        told = run(*base, *[call("would", 2, j) for j in range(4)])[-4:]
        self.assertEqual(told, [[30 + 2 * j, 60 + 2 * j, 0, 0, 0, 10 + j, 80 + 3 * j, 0, 0] for j in range(4)])

    def test_settings_count_as_they_are_now(self):
        base = (*FLOW, call("would", 3, 0), call("share", 0, 0), call("produce", 0, 0), call("fresh", 0, 0))
        self.assertEqual(last(*base, call("would", 2, 0)), [130, 0, 0, 0, 0, 0, 30, 100, 0])
        still = call("rates", 0, 1, 0, 1)
        self.assertEqual(last(*base, still, call("would", 600, 0)), [130, 0, 0, 0, 0, 100, 30, 0, 0])

    def test_behind_a_new_laying(self):
        told = last(*FLOW, call("tick", 3), call("lay", 3, 10, 10, 1, 0), call("would", 1, 0))
        # 85 are drawn into cell 0 beside an empty bath, 21 of them cross; the fresh 60 beside cell 2 gives 15.
        self.assertEqual(told, [130, 28, 240, 75, 120, 0, 58, 85 - 21 + 15, 60 + 21 - 15])

    def test_order_of_its_refusals(self):
        self.assertEqual(last(call("would", 0, 4)), [-1])
        self.assertEqual(last(call("would", 600, 4)), [-1])
        self.assertEqual(last(call("would", 600, 3)), [-2])
        self.assertEqual(last(*FLOW, call("would", 601, 1)), [-1])
        self.assertEqual(last(*FLOW, call("would", 600, 1)), [-3])
        self.assertEqual(len(last(*FLOW, call("would", 600, 0))), 9)


def spots(asked):
    """Where would stands among the calls of test_nothing_is_changed, counted from its first."""
    return (0, asked + 1, asked + 3, 2 * asked + 5, 2 * asked + 7)


if __name__ == "__main__":
    unittest.main()
