"""The device and the patient, and the calls on them."""

from bloodbath.solute import Solute

OUT_OF_RANGE = -1
NOT_LAID = -2
NOT_THERE = -3
FEWER_SOLUTES = -4
POOL_TOO_SMALL = -5
TOO_MUCH_GIVEN = -6
TOO_MANY_TICKS = -7
NO_SHARE = -8

MOST_GIVEN = 10000000000
MOST_TICKS = 20000
FIRST_VOLUME = 1000000

LAY = 0
RATES = 3

# Of each call, by its place: the lowest and the highest value of each argument.
RANGES = (
    ((2, 32), (1, 10000), (1, 10000), (1, 4), (0, 1)),
    ((0, 3), (0, 1000)),
    ((0, 3), (0, 1000000)),
    ((0, 1000), (1, 1000), (0, 1000), (1, 1000)),
    ((0, 1000000), (0, 1000000), (0, 1000)),
    ((0, 3), (0, 1), (0, 1000000000)),
    ((0, 3), (0, 1000000)),
    ((0, 1000),),
    ((1, 600),),
    ((0, 31),),
    ((0, 31),),
    (),
    ((0, 3),),
    (),
    ((0, 3),),
    ((0, 3),),
    ((0, 3),),
    (),
    ((1, 600), (0, 3)),
)

# Of the calls that name a solute, by their place: which argument names it.
SOLUTE_AT = {1: 0, 2: 0, 5: 0, 6: 0, 12: 0, 14: 0, 15: 0, 16: 0, 18: 1}


class Rate:
    """Moves so many times in so many ticks, by gathered parts."""

    def __init__(self, times, span):
        self.times = times
        self.span = span
        self.parts = 0

    def restart(self):
        self.parts = 0

    def gather(self):
        """One tick's parts are gathered; answers whether there is a move in it."""
        self.parts += self.times
        if self.parts >= self.span:
            self.parts -= self.span
            return True
        return False

    def twin(self):
        other = Rate(self.times, self.span)
        other.parts = self.parts
        return other


class Device:
    """The device, the patient and the solutes; nothing is laid at first."""

    def __init__(self):
        self.laid = False
        self.cells = 0
        self.blood_volume = 0
        self.bath_volume = 0
        self.along = False
        self.solutes = []
        self.volume1 = FIRST_VOLUME
        self.volume2 = FIRST_VOLUME
        self.between = 0
        self.round_share = 0
        self.blood_rate = Rate(0, 1)
        self.bath_rate = Rate(0, 1)
        self.ticks = 0


def lay(device, given):
    # Before the first laying there are no solutes and pool 1 is larger than any blood cell: neither refusal fits then.
    if given[3] < len(device.solutes):
        return [FEWER_SOLUTES]
    if device.volume1 < given[1]:
        return [POOL_TOO_SMALL]
    device.laid = True
    device.cells = given[0]
    device.blood_volume = given[1]
    device.bath_volume = given[2]
    device.along = given[4] == 1
    device.blood_rate.restart()
    device.bath_rate.restart()
    while len(device.solutes) < given[3]:
        device.solutes.append(Solute())
    for solute in device.solutes:
        solute.lay_cells(device.cells)
    return [0]


def set_share(device, given):
    solute = device.solutes[given[0]]
    solute.share = given[1]
    return [0]


def set_fresh(device, given):
    solute = device.solutes[given[0]]
    solute.fresh = given[1]
    return [0]


def set_rates(device, given):
    device.blood_rate = Rate(given[0], given[1])
    device.bath_rate = Rate(given[2], given[3])
    return [0]


def set_pools(device, given):
    if given[0] < device.blood_volume:
        return [POOL_TOO_SMALL]
    device.volume1 = given[0]
    device.volume2 = given[1]
    device.between = given[2]
    return [0]


def give_dose(device, given):
    solute = device.solutes[given[0]]
    if solute.given + given[2] > MOST_GIVEN:
        return [TOO_MUCH_GIVEN]
    solute.dose(given[1], given[2])
    return [0]


def set_growth(device, given):
    solute = device.solutes[given[0]]
    solute.growth = given[1]
    return [0]


def set_round(device, given):
    device.round_share = given[0]
    return [0]


def pass_ticks(device, solutes, blood_rate, bath_rate, ticks):
    """So many ticks of these solutes by these rates: the device's own, or copies of them to look ahead with."""
    for turn in range(ticks):
        blood_moves = blood_rate.gather()
        bath_moves = bath_rate.gather()
        for solute in solutes:
            solute.tick(device, blood_moves, bath_moves)


def run_ticks(device, given):
    if device.ticks + given[0] > MOST_TICKS:
        return [TOO_MANY_TICKS]
    pass_ticks(device, device.solutes, device.blood_rate, device.bath_rate, given[0])
    device.ticks += given[0]
    return [device.ticks]


def tell_blood(device, given):
    if given[0] >= device.cells:
        return [NOT_THERE]
    return [solute.blood[given[0]] for solute in device.solutes]


def tell_bath(device, given):
    if given[0] >= device.cells:
        return [NOT_THERE]
    return [solute.bath[given[0]] for solute in device.solutes]


def tell_patient(device, given):
    told = []
    for solute in device.solutes:
        told.append(solute.pool1)
        told.append(solute.pool2)
    return told


def tell_totals(device, given):
    solute = device.solutes[given[0]]
    return solute.totals()


def set_mark(device, given):
    for solute in device.solutes:
        solute.mark()
    return [0]


def common_divisor(a, b):
    while b > 0:
        rest = a % b
        a = b
        b = rest
    return a


def share_gone(before, now):
    """The share of before that is gone, in lowest terms; none where there was nothing before."""
    if before == 0:
        return [NO_SHARE]
    gone = before - now
    common = common_divisor(abs(gone), before)
    return [0, gone // common, before // common]


def tell_extraction(device, given):
    solute = device.solutes[given[0]]
    return share_gone(solute.went_in, solute.came_out)


def tell_reduction(device, given):
    # Without a mark at_mark is 0 still, so both of the refusal's reasons are one.
    solute = device.solutes[given[0]]
    return share_gone(solute.at_mark, solute.pool1)


def tell_profile(device, given):
    solute = device.solutes[given[0]]
    return solute.blood + solute.bath


def tell_look(device, given):
    laid = [device.cells, device.blood_volume, device.bath_volume, len(device.solutes)]
    so_far = [device.blood_rate.parts, device.bath_rate.parts, device.ticks]
    return laid + so_far + [device.volume1, device.volume2, device.between, device.round_share]


def tell_would(device, given):
    # No solute knows of another, so a copy of this one alone, by copies of the rates, goes as it would among all.
    solute = device.solutes[given[1]].twin()
    pass_ticks(device, [solute], device.blood_rate.twin(), device.bath_rate.twin(), given[0])
    return solute.totals()


# The calls by their place, as in RANGES.
CALLS = (
    lay,
    set_share,
    set_fresh,
    set_rates,
    set_pools,
    give_dose,
    set_growth,
    set_round,
    run_ticks,
    tell_blood,
    tell_bath,
    tell_patient,
    tell_totals,
    set_mark,
    tell_extraction,
    tell_reduction,
    tell_profile,
    tell_look,
    tell_would,
)


def in_range(place, given):
    bounds = RANGES[place]
    for i in range(len(bounds)):
        if given[i] < bounds[i][0] or given[i] > bounds[i][1]:
            return False
    if place == RATES:
        return given[0] <= given[1] and given[2] <= given[3]
    return True


def names_missing_solute(device, place, given):
    return place in SOLUTE_AT and given[SOLUTE_AT[place]] >= len(device.solutes)


def answer(device, place, given):
    """What one call answers; the refusals that calls have in common come first, in the document's order."""
    if not in_range(place, given):
        return [OUT_OF_RANGE]
    if place != LAY and not device.laid:
        return [NOT_LAID]
    if names_missing_solute(device, place, given):
        return [NOT_THERE]
    return CALLS[place](device, given)


def answers(calls):
    """The answers to the calls of one flat list, in one flat list, each with how many numbers it has before it."""
    device = Device()
    told = []
    at = 0
    while at < len(calls):
        behind = at + 1 + len(RANGES[calls[at]])
        numbers = answer(device, calls[at], calls[at + 1:behind])
        told.append(len(numbers))
        told.extend(numbers)
        at = behind
    return told
