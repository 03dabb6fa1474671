"""All calls' ranges and refusals, and promises 0 to 7 and 9: what each of these calls answers."""

import unittest

from tests.helper import DOCUMENT, HUGE, SOLUTE_AT, all_told, call, cells, last, model_run, run

LAY = call("lay", 2, 10, 10, 1, 0)
LAY4 = call("lay", 32, 10, 10, 4, 0)
# With these, a tick draws all of pool 1 into blood cell 0.
DRAW = (call("pool", 10, 0, 0), call("rates", 1, 1, 0, 1))
# What the calls that tell something answer behind LAY4; all others answer 0.
TOLD = {"blood": [0] * 4, "bath": [0] * 4, "patient": [0] * 8, "totals": [0] * 9, "extraction": [-8],
        "reduction": [-8], "profile": [0] * 64, "would": [0] * 9}


def fitting(name):
    """Numbers that a call takes, and takes still with any one of them at an end of its range."""
    if name == "rates":
        return [1, 1000, 1, 1000]
    return [high for low, high in DOCUMENT[name][1]]


def with_one(name, at, number):
    numbers = fitting(name)
    numbers[at] = number
    return call(name, *numbers)


class Ranges(unittest.TestCase):
    def each_argument(self):
        for name, (place, ranges) in DOCUMENT.items():
            for at, (low, high) in enumerate(ranges):
                yield name, at, low, high

    def test_both_ends_are_in_range(self):
        for name, at, low, high in self.each_argument():
            before = () if name == "lay" else (LAY4,)
            for number in (low, high):
                told = last(*before, with_one(name, at, number))
                with self.subTest(name=name, at=at, number=number):
                    if name == "pool" and at == 0 and number == 0:
                        self.assertEqual(told, [-5])
                    elif name == "tick":
                        self.assertEqual(told, [number])
                    else:
                        self.assertEqual(told, TOLD.get(name, [0]))

    def test_one_beyond_each_end(self):
        for name, at, low, high in self.each_argument():
            for number in (low - 1, high + 1, -HUGE, HUGE, 1 - HUGE, HUGE - 1):
                one = with_one(name, at, number)
                with self.subTest(name=name, at=at, number=number):
                    self.assertEqual(last(LAY4, one), [-1])
                    self.assertEqual(last(one), [-1], "before -2")

    def test_rates_end_at_their_spans(self):
        for numbers in ((0, 1, 0, 1), (1, 1, 1, 1), (1000, 1000, 1000, 1000), (0, 1000, 1000, 1000), (7, 7, 0, 1)):
            self.assertEqual(last(LAY, call("rates", *numbers)), [0])
        for numbers in ((2, 1, 0, 1), (0, 1, 2, 1), (8, 7, 0, 1), (0, 1, 8, 7), (1000, 999, 0, 1), (0, 0, 0, 1),
                        (0, 1, 0, 0), (-1, 1, 0, 1), (0, 1, -1, 1), (1, 1001, 1, 1), (1, 1, 1, 1001)):
            self.assertEqual(last(LAY, call("rates", *numbers)), [-1])
            self.assertEqual(last(call("rates", *numbers)), [-1])


class Refusals(unittest.TestCase):
    def test_nothing_laid(self):
        for name in DOCUMENT:
            if name != "lay":
                self.assertEqual(last(call(name, *fitting(name))), [-2], name)
                self.assertEqual(run(call(name, *fitting(name)), LAY, call("blood", 0)), [[-2], [0], [0]], name)

    def test_nothing_laid_comes_before_all_but_range(self):
        self.assertEqual(last(call("share", 3, 1)), [-2])
        self.assertEqual(last(call("pool", 0, 0, 0)), [-2])
        self.assertEqual(last(call("blood", 31)), [-2])
        self.assertEqual(last(call("bath", 31)), [-2])
        self.assertEqual(last(call("would", 600, 3)), [-2])
        for name in ("totals", "extraction", "reduction", "profile"):
            for j in range(4):
                self.assertEqual(last(call(name, j)), [-2])

    def test_a_refused_lay_lays_nothing(self):
        self.assertEqual(run(call("lay", 1, 10, 10, 1, 0), call("blood", 0)), [[-1], [-2]])
        self.assertEqual(run(call("lay", 2, 10, 10, 5, 0), call("tick", 1)), [[-1], [-2]])

    def test_no_such_solute(self):
        for k in range(1, 5):
            lay = call("lay", 2, 10, 10, k, 0)
            for j in range(4):
                wanted = [0] if j < k else [-3]
                for one in (call("share", j, 5), call("fresh", j, 5), call("dose", j, 0, 5), call("produce", j, 5)):
                    self.assertEqual(last(lay, one), wanted)
                for one in (call("totals", j), call("would", 1, j), call("would", 600, j)):
                    self.assertEqual(last(lay, one), [0] * 9 if j < k else [-3])
                self.assertEqual(last(lay, call("profile", j)), [0] * 4 if j < k else [-3])
                for one in (call("extraction", j), call("reduction", j)):
                    self.assertEqual(last(lay, one), [-8] if j < k else [-3])

    def test_every_call_with_a_solute_is_refused_where_there_is_none(self):
        for name, at in SOLUTE_AT.items():
            for j in (1, 2, 3):
                numbers = fitting(name)
                numbers[at] = j
                self.assertEqual(last(LAY, call(name, *numbers)), [-3], name)

    def test_range_comes_before_no_such_solute(self):
        self.assertEqual(last(LAY, call("share", 3, 1001)), [-1])
        self.assertEqual(last(LAY, call("fresh", 3, -1)), [-1])
        self.assertEqual(last(LAY, call("dose", 3, 2, 0)), [-1])
        self.assertEqual(last(LAY, call("produce", 3, 1000001)), [-1])
        self.assertEqual(last(LAY, call("share", 4, 0)), [-1])
        for t in (0, -1, 601, HUGE, -HUGE):
            self.assertEqual(last(LAY, call("would", t, 3)), [-1])
            self.assertEqual(last(call("would", t, 3)), [-1])
        self.assertEqual(last(LAY, call("would", 1, 4)), [-1])

    def test_no_such_cell(self):
        for n in (2, 3, 31, 32):
            lay = call("lay", n, 10, 10, 1, 0)
            for i in range(32):
                self.assertEqual(last(lay, call("blood", i)), [0] if i < n else [-3])
                self.assertEqual(last(lay, call("bath", i)), [0] if i < n else [-3])
            self.assertEqual(last(lay, call("blood", 32)), [-1])
            self.assertEqual(last(lay, call("bath", 32)), [-1])

    def test_cells_are_those_of_the_newest_device(self):
        for name in ("blood", "bath"):
            lays = (call("lay", 3, 10, 10, 1, 0), call("lay", 5, 10, 10, 1, 0), call("lay", 2, 10, 10, 1, 0))
            told = run(*[one for lay in lays for one in (lay, *[call(name, i) for i in range(6)])])
            cells_told = [told[at + 1:at + 7] for at in (0, 7, 14)]
            self.assertEqual(cells_told, [[[0]] * n + [[-3]] * (6 - n) for n in (3, 5, 2)])

    def test_no_such_solute_comes_before_too_much_given(self):
        full = [call("dose", 0, 0, 1000000000)] * 10
        self.assertEqual(last(LAY, *full, call("dose", 1, 0, 1)), [-3])
        self.assertEqual(last(LAY, *full, call("dose", 0, 0, 1000000001)), [-1])

    def test_refused_calls_change_nothing(self):
        base = [call("lay", 2, 10, 10, 2, 1), call("pool", 20, 20, 100), call("rates", 2, 3, 1, 2),
                call("share", 0, 400), call("fresh", 1, 50), call("share", 1, 700), call("produce", 0, 30),
                call("dose", 0, 0, 999), call("dose", 1, 1, 777), call("round", 300), call("tick", 5)]
        refused = [call("lay", 2, 10, 10, 1, 0), call("lay", 3, 21, 10, 4, 0), call("lay", 33, 1, 1, 4, 0),
                   call("share", 2, 1), call("share", 0, -1), call("fresh", 3, 9), call("fresh", 0, 1000001),
                   call("rates", 3, 2, 1, 1), call("rates", 1, 1, 3, 2), call("rates", 0, 0, 0, 1),
                   call("pool", 9, 5, 5), call("pool", 20, 20, 1001), call("dose", 2, 0, 5), call("dose", 0, 2, 5),
                   call("dose", 0, 0, -1), call("produce", 2, 5), call("produce", 0, -1), call("round", 1001),
                   call("tick", 0), call("tick", 601), call("blood", 2), call("blood", -1), call("bath", 2),
                   call("bath", 32), call("totals", 2), call("totals", 4), call("extraction", 3),
                   call("extraction", -1), call("reduction", 0), call("reduction", 1), call("reduction", 2),
                   call("reduction", 4), call("profile", 2), call("profile", -1), call("would", 0, 0),
                   call("would", 601, 1), call("would", 600, 2), call("would", 1, 4)]
        ask = all_told(2, 2)
        watch = [*ask, call("tick", 3), *ask, call("mark"), call("tick", 4), *ask]
        plain = run(*base, *watch)[len(base):]
        self.assertNotIn([0, 0], plain)
        for one in refused:
            told = run(*base, one, *watch)[len(base):]
            self.assertEqual(len(told[0]), 1, one)
            self.assertLess(told[0][0], 0, one)
            self.assertEqual(told[1:], plain, one)
        self.assertEqual(run(*base, *refused, *watch)[-len(watch):], plain)


class Lay(unittest.TestCase):
    def test_first_time(self):
        for numbers in ((2, 1, 1, 1, 0), (32, 10000, 10000, 4, 1)):
            self.assertEqual(run(call("lay", *numbers), call("blood", 0)), [[0], [0] * numbers[3]])

    def test_first_volumes_are_a_million(self):
        told = cells(2, LAY, call("rates", 1, 1, 0, 1), call("dose", 0, 0, 1000000), call("tick", 1))
        self.assertEqual(told, [10, 0])
        told = cells(2, LAY, call("rates", 1, 1, 0, 1), call("dose", 0, 0, 999999), call("tick", 1))
        self.assertEqual(told, [9, 0])

    def test_at_first_nothing_goes_between_the_pools(self):
        told = cells(2, LAY, call("rates", 1, 1, 0, 1), call("dose", 0, 1, 1000000000), call("tick", 2))
        self.assertEqual(told, [0, 0])

    def test_at_first_nothing_moves(self):
        self.assertEqual(cells(2, LAY, call("dose", 0, 0, 1000000000), call("tick", 600)), [0, 0])

    def test_again_with_more_as_many_and_fewer(self):
        for k in range(1, 5):
            for again in range(1, 5):
                told = run(call("lay", 2, 10, 10, k, 0), call("lay", 3, 5, 5, again, 1), call("blood", 0),
                           call("blood", 2))
                if again < k:
                    self.assertEqual(told[1:], [[-4], [0] * k, [-3]])
                else:
                    self.assertEqual(told[1:], [[0], [0] * again, [0] * again])

    def test_blood_cell_above_pool(self):
        pool = call("pool", 10, 0, 0)
        self.assertEqual(last(LAY, pool, call("lay", 2, 11, 1, 1, 0)), [-5])
        self.assertEqual(last(LAY, pool, call("lay", 2, 10000, 1, 4, 0)), [-5])
        self.assertEqual(last(LAY, pool, call("lay", 2, 10, 1, 1, 0)), [0])
        self.assertEqual(last(LAY, pool, call("lay", 2, 1, 1, 1, 0)), [0])

    def test_order_of_its_refusals(self):
        lay2 = call("lay", 2, 10, 10, 2, 0)
        pool = call("pool", 10, 0, 0)
        self.assertEqual(last(lay2, pool, call("lay", 2, 11, 1, 1, 0)), [-4])
        self.assertEqual(last(lay2, pool, call("lay", 2, 11, 1, 1, 2)), [-1])
        self.assertEqual(last(lay2, pool, call("lay", 2, 11, 1, 2, 2)), [-1])

    def test_again_cells_are_empty_and_pools_shares_and_rates_stay(self):
        first = (call("lay", 2, 10, 30, 1, 1), *DRAW, call("share", 0, 500), call("dose", 0, 0, 1000),
                 call("tick", 1), call("dose", 0, 0, 400))
        self.assertEqual(cells(2, *first), [625, 0])
        again = (*first, call("lay", 3, 10, 30, 2, 1))
        self.assertEqual(cells(3, *again), [[0, 0]] * 3)
        # 400 are drawn, 400 * 30 * 500 / 40000 = 150 of them cross to the bath, which is empty.
        self.assertEqual(cells(3, *again, call("tick", 1)), [[250, 0], [0, 0], [0, 0]])

    def test_again_ticks_fresh_produce_and_round_stay(self):
        lay = call("lay", 2, 10, 10, 1, 1)
        base = (lay, call("pool", 10, 10, 1000), call("rates", 1, 1, 1, 1), call("share", 0, 1000),
                call("fresh", 0, 100), call("produce", 0, 100), call("round", 500), call("tick", 7), lay)
        told = run(*base, call("tick", 1), call("blood", 0), call("blood", 1))
        self.assertEqual(told, model_run(*base, call("tick", 1), call("blood", 0), call("blood", 1)))
        self.assertEqual(told[-3], [8])
        self.assertGreater(told[-2][0], 50)

    def test_again_gathered_parts_are_0(self):
        lay = call("lay", 2, 10, 10, 1, 1)
        base = (lay, call("pool", 10, 0, 0), call("rates", 2, 3, 0, 1), call("dose", 0, 0, 100), call("tick", 1))
        self.assertEqual(cells(2, *base, call("tick", 1)), [100, 0])
        self.assertEqual(cells(2, *base, lay, call("tick", 1)), [0, 0])
        self.assertEqual(cells(2, *base, lay, call("tick", 2)), [100, 0])

    def test_again_gathered_parts_of_the_bath_are_0(self):
        lay = call("lay", 2, 10, 10, 1, 1)
        base = (lay, call("rates", 0, 1, 2, 3), call("share", 0, 1000), call("fresh", 0, 100), call("tick", 1))
        self.assertEqual(cells(2, *base, call("tick", 1)), [50, 0])
        self.assertEqual(cells(2, *base, lay, call("tick", 1)), [0, 0])
        self.assertEqual(cells(2, *base, lay, call("tick", 2)), [50, 0])

    def test_again_the_way_of_the_bath_is_the_new_one(self):
        for first, second, wanted in ((0, 1, [50, 0, 0]), (1, 0, [0, 0, 50])):
            told = cells(3, call("lay", 2, 10, 10, 1, first), call("rates", 0, 1, 1, 1), call("share", 0, 1000),
                         call("fresh", 0, 100), call("lay", 3, 10, 10, 1, second), call("tick", 1))
            self.assertEqual(told, wanted)

    def test_new_solutes_have_nothing_set(self):
        told = cells(2, LAY, *DRAW, call("share", 0, 1000), call("fresh", 0, 100), call("produce", 0, 100),
                     call("dose", 0, 0, 100), call("lay", 2, 10, 10, 4, 0), call("tick", 1))
        self.assertEqual(told[0], [50, 0, 0, 0])

    def test_what_was_given_stays(self):
        full = [call("dose", 0, 0, 1000000000)] * 10
        self.assertEqual(last(LAY, *full, LAY, call("dose", 0, 0, 1)), [-6])


class Settings(unittest.TestCase):
    def test_share(self):
        base = (LAY, *DRAW, call("dose", 0, 0, 1000))
        for s, wanted in ((0, 1000), (1, 1000), (2, 999), (500, 750), (999, 501), (1000, 500)):
            self.assertEqual(cells(2, *base, call("share", 0, s), call("tick", 1)), [wanted, 0])

    def test_share_is_the_last_one_set(self):
        base = (LAY, *DRAW, call("dose", 0, 0, 1000), call("share", 0, 1000), call("share", 0, 500))
        self.assertEqual(cells(2, *base, call("tick", 1)), [750, 0])

    def test_fresh(self):
        base = (call("lay", 2, 10, 10, 1, 1), call("rates", 0, 1, 1, 1), call("share", 0, 1000))
        for m in (0, 1, 2, 999999, 1000000):
            self.assertEqual(cells(2, *base, call("fresh", 0, m), call("tick", 1)), [m // 2, 0])

    def test_fresh_does_not_fill_cells_by_itself(self):
        base = (call("lay", 2, 10, 10, 1, 1), call("share", 0, 1000), call("fresh", 0, 1000000))
        self.assertEqual(cells(2, *base, call("tick", 5)), [0, 0])

    def test_produce(self):
        base = (LAY, call("pool", 10, 10, 1000), call("rates", 1, 1, 0, 1))
        for g in (0, 1, 2, 999999, 1000000):
            self.assertEqual(cells(2, *base, call("produce", 0, g), call("tick", 1)), [g // 2, 0])

    def test_produce_comes_into_pool_2_in_each_tick(self):
        base = (LAY, call("produce", 0, 100), call("tick", 9), call("pool", 10, 0, 1000), call("rates", 1, 1, 0, 1))
        # An empty second volume gives all that is in it to pool 1: nine ticks' and this one's.
        self.assertEqual(cells(2, *base, call("tick", 1)), [1000, 0])

    def test_settings_are_of_one_solute_alone(self):
        lay = call("lay", 2, 10, 10, 4, 1)
        base = (lay, call("pool", 10, 0, 1000), call("rates", 1, 1, 1, 1))
        for j in range(4):
            def only(number):
                return [number if at == j else 0 for at in range(4)]
            self.assertEqual(cells(2, *base, call("dose", j, 0, 100), call("tick", 1))[0], only(100))
            self.assertEqual(cells(2, *base, call("dose", j, 1, 100), call("tick", 1))[0], only(100))
            self.assertEqual(cells(2, *base, call("produce", j, 100), call("tick", 1))[0], only(100))
            doses = [call("dose", at, 0, 100) for at in range(4)]
            told = cells(2, *base, *doses, call("share", j, 1000), call("tick", 1))[0]
            self.assertEqual(told, [50 if at == j else 100 for at in range(4)])
            shares = [call("share", at, 1000) for at in range(4)]
            self.assertEqual(cells(2, *base, *shares, call("fresh", j, 100), call("tick", 1))[0], only(50))

    def test_rates_set_gathered_parts_to_0(self):
        base = (LAY, call("pool", 10, 0, 0), call("dose", 0, 0, 100), call("rates", 2, 3, 0, 1), call("tick", 1))
        self.assertEqual(cells(2, *base, call("tick", 1)), [100, 0])
        self.assertEqual(cells(2, *base, call("rates", 2, 3, 0, 1), call("tick", 1)), [0, 0])
        bath = (LAY, call("share", 0, 1000), call("fresh", 0, 100), call("rates", 0, 1, 2, 3), call("tick", 1))
        self.assertEqual(cells(2, *bath, call("tick", 1)), [0, 50])
        self.assertEqual(cells(2, *bath, call("rates", 0, 1, 2, 3), call("tick", 1)), [0, 0])

    def test_pool_volumes(self):
        lay = call("lay", 2, 10, 10, 1, 0)
        for v1 in range(10):
            self.assertEqual(last(lay, call("pool", v1, 5, 5)), [-5])
        for v1 in (10, 11, 1000000):
            self.assertEqual(last(lay, call("pool", v1, 0, 0)), [0])
        self.assertEqual(last(lay, call("pool", 9, 5, 1001)), [-1])
        self.assertEqual(last(lay, call("pool", -1, 5, 5)), [-1])
        self.assertEqual(last(call("lay", 2, 1, 1, 1, 0), call("pool", 0, 0, 0)), [-5])
        self.assertEqual(last(call("lay", 2, 1, 1, 1, 0), call("pool", 1, 0, 0)), [0])

    def test_pool_is_held_against_the_newest_device(self):
        lays = (call("lay", 2, 10, 10, 1, 0), call("lay", 2, 20, 10, 1, 0))
        self.assertEqual(last(*lays, call("pool", 19, 0, 0)), [-5])
        self.assertEqual(last(*lays, call("pool", 20, 0, 0)), [0])

    def test_pool_keeps_masses(self):
        base = (LAY, call("dose", 0, 0, 100), call("dose", 0, 1, 30), call("pool", 500, 7, 3), *DRAW)
        self.assertEqual(cells(2, *base, call("tick", 1)), [100, 0])
        base = (LAY, call("dose", 0, 0, 100), call("dose", 0, 1, 30), call("pool", 10, 0, 1000), *DRAW[1:])
        self.assertEqual(cells(2, *base, call("tick", 1)), [130, 0])

    def test_share_between_pools(self):
        base = (LAY, call("dose", 0, 1, 1000), call("rates", 1, 1, 0, 1))
        for x, wanted in ((0, 0), (1, 0), (2, 1), (500, 250), (999, 499), (1000, 500)):
            self.assertEqual(cells(2, *base, call("pool", 10, 10, x), call("tick", 1)), [wanted, 0])

    def test_dose(self):
        for m in (0, 1, 1000000000):
            self.assertEqual(cells(2, LAY, *DRAW, call("dose", 0, 0, m), call("tick", 1)), [m, 0])
            self.assertEqual(cells(2, LAY, *DRAW, call("dose", 0, 1, m), call("tick", 1)), [0, 0])
            told = cells(2, LAY, *DRAW, call("pool", 10, 0, 1000), call("dose", 0, 1, m), call("tick", 1))
            self.assertEqual(told, [m, 0])

    def test_dose_has_an_upper_end_for_each_solute(self):
        lay = call("lay", 2, 10, 10, 2, 0)
        most = [call("dose", 0, at % 2, 1000000000) for at in range(9)]
        told = run(lay, *most, call("dose", 0, 0, 999999999), call("dose", 0, 1, 2), call("dose", 0, 0, 1),
                   call("dose", 0, 0, 1), call("dose", 0, 1, 1), call("dose", 0, 0, 0), call("dose", 1, 0, 1000000000))
        self.assertEqual(told, [[0]] * 11 + [[-6], [0], [-6], [-6], [0], [0]])

    def test_dose_up_to_its_end_is_all_there(self):
        full = [call("dose", 0, 0, 1000000000)] * 10
        told = cells(2, LAY, *DRAW, *full, call("dose", 0, 0, 1), call("tick", 1))
        self.assertEqual(told, [10000000000, 0])

    def test_what_is_given_counts_not_what_is_there(self):
        full = [call("dose", 0, 0, 1000000000)] * 10
        told = last(call("lay", 2, 10, 10, 1, 0), *DRAW, *full, call("tick", 1), LAY, call("dose", 0, 0, 1))
        self.assertEqual(told, [-6])

    def test_round(self):
        base = (LAY, *DRAW, call("dose", 0, 0, 1007), call("tick", 2), call("dose", 0, 0, 99))
        self.assertEqual(cells(2, *base), [0, 1007])
        # again = 1007 * r / 1000, drawn = 99 * (10 - 10 * r / 1000) / 10, each division rounded down.
        for r, wanted in ((0, 99), (1, 1 + 99), (99, 99 + 99), (100, 100 + 89), (250, 251 + 79), (999, 1005 + 9),
                          (1000, 1007)):
            self.assertEqual(cells(2, *base, call("round", r), call("tick", 1)), [wanted, 0], r)

    def test_round_leaves_the_rest_to_pool_1(self):
        base = (LAY, *DRAW, call("dose", 0, 0, 1007), call("tick", 2), call("round", 250), call("tick", 1))
        self.assertEqual(cells(2, *base), [251, 0])
        self.assertEqual(cells(2, *base, call("round", 0), call("tick", 1)), [756, 251])

    def test_all_goes_round(self):
        base = (LAY, *DRAW, call("dose", 0, 0, 500), call("tick", 1), call("dose", 0, 0, 77), call("round", 1000))
        self.assertEqual(cells(2, *base, call("tick", 1)), [0, 500])
        self.assertEqual(cells(2, *base, call("tick", 2)), [500, 0])
        self.assertEqual(cells(2, *base, call("tick", 599)), [0, 500])
        self.assertEqual(cells(2, *base, call("tick", 600)), [500, 0])


class Blood(unittest.TestCase):
    def test_each_cell_of_each_solute(self):
        for k in range(1, 5):
            base = [call("lay", 5, 10, 10, k, 0), *DRAW]
            for step in range(5):
                base += [call("dose", j, 0, 100 * j + step + 1) for j in range(k)] + [call("tick", 1)]
            told = run(*base, *[call("blood", i) for i in range(5)])[-5:]
            self.assertEqual(told, [[100 * j + 5 - i for j in range(k)] for i in range(5)])

    def test_asking_changes_nothing(self):
        base = (LAY, *DRAW, call("dose", 0, 0, 5), call("tick", 1))
        self.assertEqual(run(*base, call("blood", 0), call("blood", 0), call("tick", 1))[-3:], [[5], [5], [2]])


if __name__ == "__main__":
    unittest.main()
