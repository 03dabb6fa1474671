"""What the tests share: the calls by name, a runner, and a second telling of the document to compare with."""

import copy
from fractions import Fraction
from math import floor

from bloodbath.device import answers

HUGE = 10 ** 18

# Of each call: its place and the lowest and highest value of each argument, as the document tells them.
DOCUMENT = {
    "lay": (0, [(2, 32), (1, 10000), (1, 10000), (1, 4), (0, 1)]),
    "share": (1, [(0, 3), (0, 1000)]),
    "fresh": (2, [(0, 3), (0, 1000000)]),
    "rates": (3, [(0, 1000), (1, 1000), (0, 1000), (1, 1000)]),
    "pool": (4, [(0, 1000000), (0, 1000000), (0, 1000)]),
    "dose": (5, [(0, 3), (0, 1), (0, 1000000000)]),
    "produce": (6, [(0, 3), (0, 1000000)]),
    "round": (7, [(0, 1000)]),
    "tick": (8, [(1, 600)]),
    "blood": (9, [(0, 31)]),
    "bath": (10, [(0, 31)]),
    "patient": (11, []),
    "totals": (12, [(0, 3)]),
    "mark": (13, []),
    "extraction": (14, [(0, 3)]),
    "reduction": (15, [(0, 3)]),
    "profile": (16, [(0, 3)]),
    "look": (17, []),
    "would": (18, [(1, 600), (0, 3)]),
}

# Of the calls that name a solute: which of their numbers names it.
SOLUTE_AT = {"share": 0, "fresh": 0, "dose": 0, "produce": 0, "totals": 0, "extraction": 0, "reduction": 0,
             "profile": 0, "would": 1}


def call(name, *numbers):
    place, ranges = DOCUMENT[name]
    if len(numbers) != len(ranges):
        raise ValueError(f"{name} has {len(ranges)} numbers")
    return (place, *numbers)


def run(*calls):
    """The answers, a list for each call; the list handed in must stay as it is, and ask for the same again."""
    flat = [number for one in calls for number in one]
    handed = list(flat)
    told = answers(handed)
    if handed != flat:
        raise AssertionError("the list handed in was changed")
    if answers(handed) != told:
        raise AssertionError("a second time gave another answer")
    return apart(told, len(calls))


def apart(told, count):
    parts = []
    at = 0
    while at < len(told):
        size = told[at]
        if size < 1 or at + 1 + size > len(told):
            raise AssertionError(f"no answer of {size} numbers can stand at {at}")
        parts.append(told[at + 1:at + 1 + size])
        at += 1 + size
    if len(parts) != count:
        raise AssertionError(f"{len(parts)} answers to {count} calls")
    return parts


def last(*calls):
    return run(*calls)[-1]


def all_told(n, k):
    """The calls that tell, together, all that can be asked of a device with n cells and k solutes."""
    asked = [call("look"), call("patient")]
    for i in range(n):
        asked += [call("blood", i), call("bath", i)]
    for j in range(k):
        asked += [call(name, j) for name in ("totals", "extraction", "reduction", "profile")]
        asked.append(call("would", 7, j))
    return asked


def cells(n, *calls):
    """What is in the n blood cells behind the calls; a number a cell, or a list of them with several solutes."""
    told = run(*calls, *[call("blood", i) for i in range(n)])[-n:]
    return [one[0] if len(one) == 1 else one for one in told]


class Model:
    """The document told a second time, slowly and by fractions, to hold the program against."""

    def __init__(self):
        self.dev = None
        self.sol = []
        self.parts = {"blood": 0, "bath": 0}
        self.rate = {"blood": (0, 1), "bath": (0, 1)}
        self.pat = {"v1": 1000000, "v2": 1000000, "x": 0, "r": 0}
        self.ticks = 0

    def answer(self, name, args):
        for number, (low, high) in zip(args, DOCUMENT[name][1]):
            if not low <= number <= high:
                return [-1]
        if name == "rates" and (args[0] > args[1] or args[2] > args[3]):
            return [-1]
        if name != "lay" and self.dev is None:
            return [-2]
        if name in SOLUTE_AT and args[SOLUTE_AT[name]] >= len(self.sol):
            return [-3]
        return getattr(self, "do_" + name)(*args)

    def do_lay(self, n, bv, dv, k, along):
        if self.dev is not None and k < len(self.sol):
            return [-4]
        if self.dev is not None and self.pat["v1"] < bv:
            return [-5]
        self.dev = {"n": n, "bv": bv, "dv": dv, "along": along}
        self.parts = {"blood": 0, "bath": 0}
        for s in self.sol:
            s["thrown"] += sum(s["blood"].values()) + sum(s["bath"].values())
        for _ in range(k - len(self.sol)):
            names = "s fresh g p1 p2 given produced come spent thrown into out marked"
            self.sol.append({name: 0 for name in names.split()})
        for s in self.sol:
            s["blood"] = {i: 0 for i in range(n)}
            s["bath"] = {i: 0 for i in range(n)}
        return [0]

    def do_share(self, j, s):
        self.sol[j]["s"] = s
        return [0]

    def do_fresh(self, j, m):
        self.sol[j]["fresh"] = m
        return [0]

    def do_rates(self, bn, bd, dn, dd):
        self.rate = {"blood": (bn, bd), "bath": (dn, dd)}
        self.parts = {"blood": 0, "bath": 0}
        return [0]

    def do_pool(self, v1, v2, x):
        if v1 < self.dev["bv"]:
            return [-5]
        self.pat.update(v1=v1, v2=v2, x=x)
        return [0]

    def do_dose(self, j, which, m):
        if self.sol[j]["given"] + m > 10 ** 10:
            return [-6]
        self.sol[j][("p1", "p2")[which]] += m
        self.sol[j]["given"] += m
        return [0]

    def do_produce(self, j, g):
        self.sol[j]["g"] = g
        return [0]

    def do_round(self, r):
        self.pat["r"] = r
        return [0]

    def do_tick(self, t):
        if self.ticks + t > 20000:
            return [-7]
        for _ in range(t):
            self.tick_all()
        return [self.ticks]

    def tick_all(self):
        moves = {}
        for side in ("blood", "bath"):
            self.parts[side] += self.rate[side][0]
            moves[side] = self.parts[side] >= self.rate[side][1]
            self.parts[side] -= self.rate[side][1] if moves[side] else 0
        for s in self.sol:
            self.tick_one(s, moves)
        self.ticks += 1

    def do_blood(self, i):
        if i >= self.dev["n"]:
            return [-3]
        return [s["blood"][i] for s in self.sol]

    def do_bath(self, i):
        if i >= self.dev["n"]:
            return [-3]
        return [s["bath"][i] for s in self.sol]

    def do_patient(self):
        return [s[name] for s in self.sol for name in ("p1", "p2")]

    def do_totals(self, j):
        s = self.sol[j]
        return [s[name] for name in ("given", "produced", "come", "spent", "thrown", "p1", "p2")] + [
            sum(s["blood"].values()), sum(s["bath"].values())]

    def do_mark(self):
        for s in self.sol:
            s.update({"into": 0, "out": 0, "marked": s["p1"]})
        return [0]

    def do_extraction(self, j):
        return fraction_told(self.sol[j]["into"], self.sol[j]["out"])

    def do_reduction(self, j):
        return fraction_told(self.sol[j]["marked"], self.sol[j]["p1"])

    def do_profile(self, j):
        return [self.sol[j][side][i] for side in ("blood", "bath") for i in range(self.dev["n"])]

    def do_look(self):
        return [self.dev["n"], self.dev["bv"], self.dev["dv"], len(self.sol), self.parts["blood"], self.parts["bath"],
                self.ticks, self.pat["v1"], self.pat["v2"], self.pat["x"], self.pat["r"]]

    def do_would(self, t, j):
        ahead = copy.deepcopy(self)
        for _ in range(t):
            ahead.tick_all()
        return ahead.do_totals(j)

    def tick_one(self, s, moves):
        s["p2"] += s["g"]
        s["produced"] += s["g"]
        s["p1"], s["p2"] = exchanged(s["p1"], self.pat["v1"], s["p2"], self.pat["v2"], self.pat["x"])
        if moves["blood"]:
            self.tick_blood(s)
        if moves["bath"]:
            self.tick_bath(s)
        for i in range(self.dev["n"]):
            s["blood"][i], s["bath"][i] = exchanged(
                s["blood"][i], self.dev["bv"], s["bath"][i], self.dev["dv"], s["s"])

    def tick_blood(self, s):
        n, bv, r = self.dev["n"], self.dev["bv"], self.pat["r"]
        end = s["blood"][n - 1]
        again = floor(Fraction(end * r, 1000))
        drawn = floor(Fraction(s["p1"] * (bv - floor(Fraction(bv * r, 1000))), self.pat["v1"]))
        s["p1"] = s["p1"] - drawn + (end - again)
        for i in range(n - 1, 0, -1):
            s["blood"][i] = s["blood"][i - 1]
        s["blood"][0] = again + drawn
        s["into"] += again + drawn
        s["out"] += end

    def tick_bath(self, s):
        n = self.dev["n"]
        way = list(range(n)) if self.dev["along"] else list(range(n - 1, -1, -1))
        s["spent"] += s["bath"][way[-1]]
        for here, before in zip(way[:0:-1], way[-2::-1]):
            s["bath"][here] = s["bath"][before]
        s["bath"][way[0]] = s["fresh"]
        s["come"] += s["fresh"]


def model_run(*calls):
    """The answers of the second telling, a list for each call."""
    model = Model()
    names = {place: name for name, (place, ranges) in DOCUMENT.items()}
    return [model.answer(names[one[0]], one[1:]) for one in calls]


def fraction_told(whole, left):
    if whole == 0:
        return [-8]
    gone = Fraction(whole - left, whole)
    return [0, gone.numerator, gone.denominator]


def exchanged(a, v, b, w, z):
    if v + w == 0:
        return a, b
    lean = Fraction((a * w - b * v) * z, 1000 * (v + w))
    c = floor(lean) if lean >= 0 else -floor(-lean)
    return a - c, b + c
