"""What a solute and the device hold between the calls, whether a call tells it or not."""

import unittest

from bloodbath.device import Device, answer
from bloodbath.solute import crossing
from tests.helper import all_told, call


def device_behind(*calls):
    device = Device()
    for one in calls:
        told = answer(device, one[0], list(one[1:]))
        if told[0] < 0:
            raise AssertionError(f"{one} was refused by {told}")
    return device


def held(thing):
    """All that an object holds, as plain values to compare."""
    if isinstance(thing, (list, tuple)):
        return [held(one) for one in thing]
    if hasattr(thing, "__dict__"):
        return {name: held(one) for name, one in vars(thing).items()}
    return thing


def whole(solute):
    came = solute.given + solute.produced + solute.come
    there = solute.pool1 + solute.pool2 + sum(solute.blood) + sum(solute.bath)
    return came, solute.spent + solute.thrown + there


BASE = (call("lay", 2, 10, 10, 1, 1), call("pool", 10, 10, 0), call("rates", 1, 1, 1, 1))


class FirstValues(unittest.TestCase):
    def test_device_and_patient(self):
        device = device_behind(call("lay", 3, 4, 5, 2, 1))
        self.assertEqual((device.volume1, device.volume2), (1000000, 1000000))
        self.assertEqual((device.between, device.round_share, device.ticks), (0, 0, 0))
        for rate in (device.blood_rate, device.bath_rate):
            self.assertEqual((rate.times, rate.span, rate.parts), (0, 1, 0))

    def test_later_all_these_stay(self):
        device = device_behind(call("lay", 3, 4, 5, 2, 1), call("pool", 70, 80, 90), call("round", 60),
                               call("rates", 2, 7, 3, 5), call("tick", 4), call("lay", 2, 70, 9, 3, 0))
        self.assertEqual((device.volume1, device.volume2, device.between), (70, 80, 90))
        self.assertEqual((device.round_share, device.ticks), (60, 4))
        self.assertEqual((device.blood_rate.times, device.blood_rate.span, device.blood_rate.parts), (2, 7, 0))
        self.assertEqual((device.bath_rate.times, device.bath_rate.span, device.bath_rate.parts), (3, 5, 0))
        self.assertEqual((device.cells, device.blood_volume, device.bath_volume), (2, 70, 9))

    def test_solute(self):
        solute = device_behind(call("lay", 3, 4, 5, 2, 1)).solutes[1]
        numbers = held(solute)
        self.assertEqual((numbers.pop("blood"), numbers.pop("bath")), ([0] * 3, [0] * 3))
        self.assertEqual(len(numbers), 13)
        self.assertEqual(set(numbers.values()), {0})


class GatheredParts(unittest.TestCase):
    def test_by_ticks(self):
        for ticks, blood, bath in ((1, 3, 2), (2, 6, 4), (3, 2, 1), (4, 5, 3), (5, 1, 0)):
            device = device_behind(BASE[0], call("rates", 3, 7, 2, 5), call("tick", ticks))
            self.assertEqual((device.blood_rate.parts, device.bath_rate.parts), (blood, bath))

    def test_0_behind_lay_and_rates(self):
        for one in (BASE[0], call("rates", 3, 7, 2, 5)):
            device = device_behind(BASE[0], call("rates", 3, 7, 2, 5), call("tick", 1), one)
            self.assertEqual((device.blood_rate.parts, device.bath_rate.parts), (0, 0))


class Totals(unittest.TestCase):
    def test_given(self):
        solute = device_behind(*BASE, call("dose", 0, 0, 30), call("dose", 0, 1, 12)).solutes[0]
        self.assertEqual((solute.given, solute.pool1, solute.pool2), (42, 30, 12))

    def test_produced(self):
        solute = device_behind(*BASE, call("produce", 0, 7), call("tick", 5)).solutes[0]
        self.assertEqual((solute.produced, solute.pool2, solute.given), (35, 35, 0))

    def test_come_and_spent(self):
        for along, bath in ((1, [9, 20]), (0, [20, 9])):
            solute = device_behind(call("lay", 2, 10, 10, 1, along), call("rates", 0, 1, 1, 1), call("fresh", 0, 100),
                                   call("tick", 1), call("fresh", 0, 20), call("tick", 1), call("fresh", 0, 9),
                                   call("tick", 1)).solutes[0]
            self.assertEqual((solute.come, solute.spent, solute.bath), (129, 100, bath))

    def test_thrown_away(self):
        calls = (*BASE, call("share", 0, 500), call("fresh", 0, 60), call("dose", 0, 0, 100), call("tick", 1))
        before = device_behind(*calls).solutes[0]
        inside = sum(before.blood) + sum(before.bath)
        self.assertEqual(inside, 160)
        behind = device_behind(*calls, call("lay", 3, 10, 10, 2, 0)).solutes
        self.assertEqual([behind[0].thrown, behind[1].thrown], [160, 0])
        self.assertEqual((behind[0].blood, behind[0].bath), ([0] * 3, [0] * 3))
        for name, number in held(before).items():
            if name not in ("thrown", "blood", "bath"):
                self.assertEqual(held(behind[0])[name], number, name)
        again = device_behind(*calls, BASE[0], BASE[0], call("tick", 1), BASE[0]).solutes[0]
        self.assertEqual(again.thrown, 160 + 60)

    def test_into_and_out_of_the_device(self):
        calls = (*BASE, call("dose", 0, 0, 1007))
        seen = []
        for ticks in (1, 2, 3):
            solute = device_behind(*calls, call("round", 250), call("tick", ticks)).solutes[0]
            seen.append((solute.went_in, solute.came_out, solute.pool1))
        # Of 1007, 8 of 10 volumes are drawn: 805, then 161 of 202, then 32 of 41; 805 come out, 201 of it go round.
        self.assertEqual(seen, [(805, 0, 202), (966, 0, 41), (966 + 201 + 32, 805, 41 - 32 + 604)])

    def test_out_is_counted_behind_the_membrane(self):
        solute = device_behind(*BASE, call("share", 0, 1000), call("dose", 0, 0, 100), call("tick", 3)).solutes[0]
        # 50 of 100 cross, then the fresh bath goes along with the blood and takes no more.
        self.assertEqual((solute.went_in, solute.came_out), (100, 50))

    def test_nothing_marked(self):
        solute = device_behind(*BASE, call("dose", 0, 0, 1007), call("tick", 9), BASE[0]).solutes[0]
        self.assertEqual(solute.at_mark, 0)

    def test_nothing_is_lost(self):
        calls = [call("lay", 5, 11, 7, 2, 0), call("pool", 41, 103, 219), call("rates", 5, 7, 3, 4),
                 call("round", 333), call("share", 0, 777), call("share", 1, 21), call("fresh", 1, 1003),
                 call("produce", 0, 17), call("dose", 0, 0, 99999), call("dose", 1, 1, 4711), call("tick", 250),
                 call("lay", 3, 41, 1, 3, 1), call("dose", 2, 0, 5), call("produce", 2, 1), call("share", 2, 999),
                 call("tick", 333)]
        for end in range(1, len(calls) + 1):
            for solute in device_behind(*calls[:end]).solutes:
                came, there = whole(solute)
                self.assertEqual(came, there)
                self.assertGreaterEqual(min(solute.blood + solute.bath + [solute.pool1, solute.pool2]), 0)


class Refused(unittest.TestCase):
    def test_nothing_kept_is_changed(self):
        device = device_behind(call("lay", 2, 10, 10, 2, 1), call("pool", 20, 20, 100), call("rates", 2, 3, 1, 2),
                               call("share", 0, 400), call("fresh", 1, 50), call("produce", 0, 30),
                               call("dose", 0, 0, 1000000000), *[call("dose", 1, 1, 1000000000)] * 10,
                               *[call("tick", 600)] * 33, call("tick", 199))
        before = held(device)
        refused = ((call("lay", 2, 10, 10, 5, 0), -1), (call("lay", 3, 21, 9, 1, 0), -4), (call("lay", 3, 21, 9, 3, 0), -5),
                   (call("share", 3, 7), -3), (call("fresh", 2, 7), -3), (call("rates", 2, 1, 0, 1), -1),
                   (call("pool", 9, 1, 1), -5), (call("dose", 1, 0, 1), -6), (call("dose", 2, 0, 1), -3),
                   (call("produce", 2, 1), -3), (call("round", -1), -1), (call("tick", 2), -7), (call("tick", 601), -1),
                   (call("blood", 2), -3), (call("bath", 2), -3), (call("totals", 2), -3), (call("extraction", 2), -3),
                   (call("reduction", 2), -3), (call("profile", 3), -3), (call("would", 600, 2), -3),
                   (call("would", 601, 2), -1), (call("reduction", 0), -8))
        for one, number in refused:
            self.assertEqual(answer(device, one[0], list(one[1:])), [number], one)
            self.assertEqual(held(device), before, one)


class Asked(unittest.TestCase):
    def test_nothing_kept_is_changed(self):
        device = device_behind(call("lay", 2, 10, 10, 2, 1), call("pool", 20, 20, 100), call("rates", 2, 3, 3, 4),
                               call("share", 0, 400), call("fresh", 1, 50), call("produce", 0, 30),
                               call("dose", 0, 0, 1007), call("tick", 5), call("mark"), call("tick", 2))
        before = held(device)
        for one in all_told(2, 2) + [call("would", 600, 0), call("would", 1, 1)]:
            told = answer(device, one[0], list(one[1:]))
            told.clear()
            self.assertEqual(held(device), before, one)

    def test_a_mark_changes_only_what_is_since_the_mark(self):
        device = device_behind(*BASE, call("dose", 0, 0, 1007), call("round", 250), call("tick", 3))
        before = held(device)
        answer(device, 13, [])
        solute = device.solutes[0]
        self.assertEqual((solute.went_in, solute.came_out, solute.at_mark), (0, 0, solute.pool1))
        before["solutes"][0].update(went_in=0, came_out=0, at_mark=solute.pool1)
        self.assertEqual(held(device), before)


class Exchange(unittest.TestCase):
    def test_no_volume_at_all(self):
        self.assertEqual(crossing(5, 0, 9, 0, 1000), 0)

    def test_both_ways_alike(self):
        for a, v, b, w, z in ((1000, 10, 0, 30, 500), (7, 3, 2, 5, 999), (1, 1, 0, 1, 1000), (9, 2, 1, 0, 1000)):
            self.assertEqual(crossing(a, v, b, w, z), -crossing(b, w, a, v, z))
        self.assertEqual(crossing(1000, 10, 0, 30, 500), 375)
        self.assertEqual(crossing(0, 10, 375, 30, 500), -46)
        self.assertEqual(crossing(250, 10, 750, 30, 1000), 0)


if __name__ == "__main__":
    unittest.main()
