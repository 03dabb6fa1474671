"""Promise 8: what a tick does, step by step, and how many ticks there may be."""

import unittest

from tests.helper import call, cells, last, run

ALONG = call("lay", 2, 10, 10, 1, 1)
AGAINST = call("lay", 2, 10, 10, 1, 0)
# With these, blood moves in each tick and draws all of pool 1.
DRAW = (call("pool", 10, 0, 0), call("rates", 1, 1, 0, 1))
STILL = call("rates", 0, 1, 0, 1)


class Counting(unittest.TestCase):
    def test_answers_all_ticks_so_far(self):
        told = run(ALONG, call("tick", 1), call("tick", 600), call("tick", 7), ALONG, call("tick", 1))
        self.assertEqual(told, [[0], [1], [601], [608], [0], [609]])

    def test_up_to_20000(self):
        many = [call("tick", 600)] * 33
        told = run(ALONG, *many, call("tick", 201), call("tick", 199), call("tick", 2), call("tick", 1),
                   call("tick", 1), call("tick", 600), call("tick", 601), call("tick", 0))
        self.assertEqual(told[33:], [[19800], [-7], [19999], [-7], [20000], [-7], [-7], [-1], [-1]])

    def test_too_many_change_nothing(self):
        many = [call("tick", 600)] * 33
        base = (ALONG, *many, call("tick", 198), *DRAW, call("dose", 0, 0, 100))
        told = run(*base, call("tick", 3), call("blood", 0), call("tick", 1), call("blood", 0), call("tick", 2),
                   call("blood", 0), call("tick", 1), call("blood", 1))
        self.assertEqual(told[-8:], [[-7], [0], [19999], [100], [-7], [100], [20000], [100]])

    def test_laying_again_does_not_give_new_ticks(self):
        many = [call("tick", 600)] * 33
        self.assertEqual(last(ALONG, *many, call("tick", 200), ALONG, call("tick", 1)), [-7])

    def test_many_at_once_are_many_one_by_one(self):
        base = (call("lay", 3, 10, 7, 2, 0), call("pool", 37, 91, 77), call("rates", 3, 4, 5, 9), call("round", 130),
                call("share", 0, 333), call("share", 1, 801), call("fresh", 0, 55), call("produce", 1, 13),
                call("dose", 0, 0, 10007), call("dose", 1, 1, 20011))
        self.assertEqual(cells(3, *base, call("tick", 40)), cells(3, *base, *[call("tick", 1)] * 40))


class Rates(unittest.TestCase):
    def moves(self, bn, bd, ticks):
        """In which ticks blood moved: each tick one is given, and all of pool 1 is drawn where it moves."""
        seen = []
        calls = [call("lay", 2, 10, 10, 1, 1), call("pool", 10, 0, 0), call("round", 0), call("rates", bn, bd, 0, 1)]
        before = None
        for tick in range(1, ticks + 1):
            calls += [call("dose", 0, 0, 10 ** 5 + tick), call("tick", 1)]
            now = cells(2, *calls)
            if now != (before or [0, 0]):
                seen.append(tick)
            before = now
        return seen

    def test_blood_moves_by_gathered_parts(self):
        self.assertEqual(self.moves(0, 1, 6), [])
        self.assertEqual(self.moves(0, 1000, 6), [])
        self.assertEqual(self.moves(1, 1, 6), [1, 2, 3, 4, 5, 6])
        self.assertEqual(self.moves(1000, 1000, 6), [1, 2, 3, 4, 5, 6])
        self.assertEqual(self.moves(1, 2, 6), [2, 4, 6])
        self.assertEqual(self.moves(2, 3, 9), [2, 3, 5, 6, 8, 9])
        self.assertEqual(self.moves(3, 7, 14), [3, 5, 7, 10, 12, 14])
        self.assertEqual(self.moves(999, 1000, 4), [2, 3, 4])

    def test_bath_moves_by_gathered_parts(self):
        # Fresh cells are the only ones with content, so the blood beside cell 0 tells when they have come.
        base = (ALONG, call("share", 0, 1000), call("fresh", 0, 100))
        for dn, dd, first in ((1, 1, 1), (1, 2, 2), (2, 3, 2), (1, 600, 600), (3, 7, 3), (600, 601, 2), (7, 7, 1)):
            rates = call("rates", 0, 1, dn, dd)
            if first > 1:
                self.assertEqual(cells(2, *base, rates, call("tick", first - 1)), [0, 0])
            self.assertEqual(cells(2, *base, rates, call("tick", first)), [50, 0])
        for dd in (1, 1000):
            self.assertEqual(cells(2, *base, call("rates", 0, 1, 0, dd), call("tick", 600)), [0, 0])

    def test_blood_and_bath_gather_apart(self):
        base = (ALONG, call("pool", 10, 0, 0), call("share", 0, 1000), call("fresh", 0, 100), call("dose", 0, 0, 1000))
        self.assertEqual(cells(2, *base, call("rates", 1, 2, 1, 1), call("tick", 1)), [50, 0])
        self.assertEqual(cells(2, *base, call("rates", 1, 1, 1, 2), call("tick", 1)), [500, 0])


class Pools(unittest.TestCase):
    def drawn(self, v1, v2, x, in1, in2, ticks=1):
        """What is in pool 1 behind the ticks' exchanges between the pools."""
        return cells(2, call("lay", 2, 1, 1, 1, 0), call("pool", v1, v2, x), call("dose", 0, 0, in1),
                     call("dose", 0, 1, in2), call("tick", ticks), call("pool", 1, v2, 0),
                     call("rates", 1, 1, 0, 1), call("tick", 1))[0]

    def test_from_the_stronger_to_the_weaker(self):
        # (1000 * 30 - 0 * 10) * 500 / 40000 = 375 go from pool 1; the other way (1000 * 10) * 500 / 40000 = 125 come.
        self.assertEqual(self.drawn(10, 30, 500, 1000, 0), 625)
        self.assertEqual(self.drawn(10, 30, 500, 0, 1000), 125)

    def test_equality_stays(self):
        self.assertEqual(self.drawn(10, 30, 1000, 250, 750, 9), 250)
        self.assertEqual(self.drawn(10, 30, 1000, 1000, 0, 1), 250)
        self.assertEqual(self.drawn(10, 30, 1000, 1000, 0, 600), 250)

    def test_rounded_down_both_ways(self):
        # 1 * 10 * 999 / 20000 is below 1, whichever way it leans.
        self.assertEqual(self.drawn(10, 10, 999, 1, 0), 1)
        self.assertEqual(self.drawn(10, 10, 999, 0, 1), 0)
        self.assertEqual(self.drawn(10, 10, 1000, 3, 0), 2)
        self.assertEqual(self.drawn(10, 10, 1000, 0, 3), 1)

    def test_an_empty_second_volume(self):
        self.assertEqual(self.drawn(10, 0, 1000, 70, 30), 100)
        self.assertEqual(self.drawn(10, 0, 500, 70, 31), 85)
        self.assertEqual(self.drawn(10, 0, 1000, 70, 0), 70)
        self.assertEqual(self.drawn(10, 0, 0, 70, 30), 70)

    def test_large(self):
        self.assertEqual(self.drawn(1000000, 1000000, 1000, 10 ** 9, 0), 5 * 10 ** 8)
        self.assertEqual(self.drawn(1, 1000000, 1000, 10 ** 9, 0), 10 ** 9 - 10 ** 15 // 1000001)

    def test_produced_before_the_exchange_and_that_before_drawing(self):
        base = (AGAINST, call("pool", 10, 10, 1000), call("rates", 1, 1, 0, 1), call("produce", 0, 100))
        self.assertEqual(cells(2, *base, call("tick", 1)), [50, 0])
        # Pool 2 keeps 50, another 100 come, and half of these 150 go over and are drawn.
        self.assertEqual(cells(2, *base, call("tick", 2)), [75, 50])


class BloodMoves(unittest.TestCase):
    def test_content_goes_on_and_comes_back(self):
        base = (call("lay", 3, 10, 10, 1, 0), *DRAW, call("dose", 0, 0, 100))
        for ticks, wanted in ((1, [100, 0, 0]), (2, [0, 100, 0]), (3, [0, 0, 100]), (4, [0, 0, 0]), (5, [100, 0, 0])):
            self.assertEqual(cells(3, *base, call("tick", ticks)), wanted)

    def test_drawn_by_volume_rounded_down(self):
        base = (call("lay", 3, 10, 10, 1, 0), call("pool", 33, 0, 0), call("rates", 1, 1, 0, 1), call("dose", 0, 0, 100))
        # 100 * 10 / 33 = 30, 70 * 10 / 33 = 21, 49 * 10 / 33 = 14; then 35 * 10 / 33 = 10 before 30 come back.
        self.assertEqual(cells(3, *base, call("tick", 3)), [14, 21, 30])
        self.assertEqual(cells(3, *base, call("tick", 4)), [10, 14, 21])
        self.assertEqual(cells(3, *base, call("tick", 5)), [55 * 10 // 33, 10, 14])

    def test_inner_division_is_rounded_first(self):
        # 7 * 500 / 1000 = 3, so a volume of 4 is drawn: 1000 * 4 / 10, not 1000 * 7 * 500 / 10000.
        base = (call("lay", 2, 7, 10, 1, 0), call("pool", 10, 0, 0), call("rates", 1, 1, 0, 1), call("round", 500))
        self.assertEqual(cells(2, *base, call("dose", 0, 0, 1000), call("tick", 1)), [400, 0])

    def test_blood_that_does_not_move_stays(self):
        base = (call("lay", 3, 10, 10, 1, 0), *DRAW, call("dose", 0, 0, 100), call("tick", 2), STILL)
        self.assertEqual(cells(3, *base, call("tick", 50)), [0, 100, 0])


class BathMoves(unittest.TestCase):
    def fresh(self, lay, ticks):
        """A bath goes by with the share 0; then nothing moves and one exchange shows where it has come."""
        n = lay[1]
        return cells(n, lay, call("fresh", 0, 100), call("rates", 0, 1, 1, 1), call("tick", ticks), STILL,
                     call("share", 0, 1000), call("tick", 1))

    def test_along_and_against(self):
        for n in (2, 3, 32):
            for ticks in range(1, n + 3):
                full = min(n, ticks)
                wanted = [50] * full + [0] * (n - full)
                self.assertEqual(self.fresh(call("lay", n, 10, 10, 1, 1), ticks), wanted)
                self.assertEqual(self.fresh(call("lay", n, 10, 10, 1, 0), ticks), wanted[::-1])

    def test_each_content_goes_on(self):
        base = (call("fresh", 0, 100), call("rates", 0, 1, 1, 1), call("tick", 1), call("fresh", 0, 40),
                call("tick", 1), call("fresh", 0, 6), call("tick", 1))
        show = (STILL, call("share", 0, 1000), call("tick", 1))
        self.assertEqual(cells(3, call("lay", 3, 10, 10, 1, 1), *base, *show), [3, 20, 50])
        self.assertEqual(cells(3, call("lay", 3, 10, 10, 1, 0), *base, *show), [50, 20, 3])
        more = (*base, call("tick", 1), *show)
        self.assertEqual(cells(3, call("lay", 3, 10, 10, 1, 1), *more), [3, 3, 20])
        self.assertEqual(cells(3, call("lay", 3, 10, 10, 1, 0), *more), [20, 3, 3])

    def test_moves_before_the_exchange(self):
        base = (call("fresh", 0, 100), call("rates", 0, 1, 1, 1), call("share", 0, 1000))
        self.assertEqual(cells(2, ALONG, *base, call("tick", 1)), [50, 0])
        self.assertEqual(cells(2, AGAINST, *base, call("tick", 1)), [0, 50])
        # The cell with 50 goes on to an empty blood cell: 25; the fresh 100 lies beside 50: 75.
        self.assertEqual(cells(2, ALONG, *base, call("tick", 2)), [75, 25])
        self.assertEqual(cells(2, AGAINST, *base, call("tick", 2)), [25, 75])


class Membrane(unittest.TestCase):
    def test_worked_out(self):
        base = (call("lay", 2, 10, 30, 1, 1), *DRAW, call("share", 0, 500), call("dose", 0, 0, 1000))
        # 1000 * 30 * 500 / 40000 = 375 cross.
        self.assertEqual(cells(2, *base, call("tick", 1)), [625, 0])
        # 375 * 10 * 500 / 40000 = 46 come back into cell 0; 625 * 30 * 500 / 40000 = 234 cross in cell 1.
        self.assertEqual(cells(2, *base, call("tick", 2)), [46, 391])

    def test_drawn_blood_crosses_in_the_same_tick(self):
        base = (ALONG, *DRAW, call("share", 0, 1000), call("dose", 0, 0, 1000))
        self.assertEqual(cells(2, *base, call("tick", 1)), [500, 0])

    def test_equality_stays(self):
        base = (call("lay", 2, 10, 30, 1, 1), *DRAW, call("share", 0, 1000), call("dose", 0, 0, 1000), call("tick", 1),
                STILL)
        self.assertEqual(cells(2, *base), [250, 0])
        self.assertEqual(cells(2, *base, call("tick", 600)), [250, 0])

    def test_nothing_goes_past_equality(self):
        # Half of 1 would have to cross, whichever side it is on; less than one whole stays where it is.
        base = (call("lay", 2, 10, 10, 1, 1), *DRAW, call("share", 0, 1000))
        self.assertEqual(cells(2, *base, call("dose", 0, 0, 1), call("tick", 1), STILL, call("tick", 9)), [1, 0])
        bath = (ALONG, call("fresh", 0, 1), call("share", 0, 1000), call("rates", 0, 1, 1, 1), call("tick", 1), STILL)
        self.assertEqual(cells(2, *bath, call("tick", 9)), [0, 0])

    def test_rounded_down_both_ways(self):
        for mass in range(12):
            blood = (ALONG, *DRAW, call("share", 0, 300), call("dose", 0, 0, mass), call("tick", 1))
            self.assertEqual(cells(2, *blood), [mass - mass * 300 // 2000, 0])
            bath = (ALONG, call("share", 0, 300), call("fresh", 0, mass), call("rates", 0, 1, 1, 1), call("tick", 1))
            self.assertEqual(cells(2, *bath), [mass * 300 // 2000, 0])

    def test_share_0_keeps_all_apart(self):
        base = (ALONG, *DRAW, call("fresh", 0, 1000000), call("rates", 1, 1, 1, 1), call("dose", 0, 0, 10))
        self.assertEqual(cells(2, *base, call("tick", 2)), [0, 10])

    def test_volumes_at_their_ends(self):
        for bv, dv in ((1, 1), (1, 10000), (10000, 1), (10000, 10000)):
            mass = 10 ** 9
            base = (call("lay", 2, bv, dv, 1, 1), call("pool", bv, 0, 0), call("rates", 1, 1, 0, 1),
                    call("share", 0, 1000), call("dose", 0, 0, mass), call("tick", 1))
            self.assertEqual(cells(2, *base), [mass - mass * dv // (bv + dv), 0])

    def test_solutes_do_not_know_of_one_another(self):
        settings = ((100, 50, 7, 900, 0), (900, 0, 0, 0, 12345), (0, 1000, 3, 500, 500), (1000, 1, 1000, 0, 0))
        lay = (4, 10, 25, 0)
        shared = (call("pool", 45, 80, 120), call("rates", 3, 5, 2, 3), call("round", 210))

        def setting(j, which):
            s, fresh, g, in1, in2 = settings[which]
            return (call("share", j, s), call("fresh", j, fresh), call("produce", j, g), call("dose", j, 0, in1),
                    call("dose", j, 1, in2))

        n, bv, dv, along = lay
        alone = [cells(n, call("lay", n, bv, dv, 1, along), *shared, *setting(0, which), call("tick", 77))
                 for which in range(4)]
        all_of_them = [one for j in range(4) for one in setting(j, j)]
        together = cells(n, call("lay", n, bv, dv, 4, along), *shared, *all_of_them, call("tick", 77))
        self.assertEqual(together, [[alone[j][i] for j in range(4)] for i in range(n)])
        self.assertEqual(len({tuple(one) for one in alone}), 4)


if __name__ == "__main__":
    unittest.main()
