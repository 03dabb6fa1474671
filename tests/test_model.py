"""Long runs of calls, drawn from a fixed seed, against the second telling of the document."""

import random
import unittest

from bloodbath.device import Device, answer
from tests.helper import DOCUMENT, HUGE, SOLUTE_AT, Model, all_told, call, model_run, run

NAMES = {"s": "share", "fresh": "fresh", "g": "growth", "p1": "pool1", "p2": "pool2", "given": "given",
         "produced": "produced", "come": "come", "spent": "spent", "thrown": "thrown", "into": "went_in",
         "out": "came_out", "marked": "at_mark"}


def number_for(draw, low, high):
    way = draw.random()
    if way < 0.03:
        return draw.choice((low - 1, high + 1, HUGE, -HUGE))
    if way < 0.15:
        return draw.choice((low, high))
    if way < 0.6:
        return draw.randint(low, min(high, low + 40))
    return draw.randint(low, high)


def some_call(draw, small):
    name = draw.choice([*DOCUMENT, "tick", "tick", "dose", "dose", "share", "fresh"])
    numbers = [number_for(draw, low, high) for low, high in DOCUMENT[name][1]]
    if name == "rates":
        numbers[0] = min(numbers[0], numbers[1]) if draw.random() < 0.9 else numbers[0]
        numbers[2] = min(numbers[2], numbers[3]) if draw.random() < 0.9 else numbers[2]
    if small and name in ("tick", "would") and draw.random() < 0.97:
        numbers[0] = draw.randint(1, 12)
    if small and name in SOLUTE_AT:
        numbers[SOLUTE_AT[name]] = draw.randint(0, 3)
    if small and name in ("blood", "bath"):
        numbers[0] = draw.randint(0, 5)
    if small and name == "lay":
        numbers[0] = draw.randint(2, 6)
        numbers[1] = draw.randint(1, 60)
    if small and name == "pool":
        numbers[0] = draw.randint(1, 200)
    return call(name, *numbers)


class Against(unittest.TestCase):
    def test_small_ones(self):
        for seed in range(150):
            draw = random.Random(seed)
            calls = [call("lay", draw.randint(2, 5), draw.randint(1, 50), draw.randint(1, 50), draw.randint(1, 4),
                          draw.randint(0, 1))]
            calls += [some_call(draw, True) for at in range(60)]
            self.assertEqual(run(*calls), model_run(*calls), f"seed {seed}")

    def test_any(self):
        for seed in range(15):
            draw = random.Random(1000 + seed)
            calls = [some_call(draw, False) for at in range(40)]
            self.assertEqual(run(*calls), model_run(*calls), f"seed {seed}")

    def test_as_many_calls_as_there_may_be(self):
        for seed in range(8):
            draw = random.Random(3000 + seed)
            calls = [some_call(draw, True) for at in range(400)]
            told = run(*calls)
            self.assertEqual(told, model_run(*calls), f"seed {seed}")
            self.assertEqual({one[0] for one in calls}, set(range(19)), f"seed {seed}")

    def test_all_that_can_be_asked_behind_each_call(self):
        for seed in range(25):
            draw = random.Random(4000 + seed)
            calls = [call("lay", 3, draw.randint(1, 50), draw.randint(1, 50), 2, draw.randint(0, 1))]
            for at in range(20):
                calls += [some_call(draw, True), *all_told(3, 2)]
            self.assertEqual(run(*calls[:400]), model_run(*calls[:400]), f"seed {seed}")

    def test_all_that_is_kept(self):
        for seed in range(60):
            draw = random.Random(2000 + seed)
            device = Device()
            model = Model()
            places = {place: name for name, (place, ranges) in DOCUMENT.items()}
            for one in [some_call(draw, True) for at in range(60)]:
                told = answer(device, one[0], list(one[1:]))
                self.assertEqual(told, model.answer(places[one[0]], one[1:]), f"seed {seed}")
                self.assert_alike(device, model, seed)

    def assert_alike(self, device, model, seed):
        self.assertEqual(len(device.solutes), len(model.sol))
        self.assertEqual(device.ticks, model.ticks)
        self.assertEqual([device.blood_rate.parts, device.bath_rate.parts], list(model.parts.values()))
        for mine, other in zip(device.solutes, model.sol):
            for name, attribute in NAMES.items():
                self.assertEqual(getattr(mine, attribute), other[name], f"seed {seed}: {attribute}")
            self.assertEqual(mine.blood, list(other["blood"].values()))
            self.assertEqual(mine.bath, list(other["bath"].values()))


if __name__ == "__main__":
    unittest.main()
