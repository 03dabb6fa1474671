"""One solute: where it is, and what a tick does to it."""


def crossing(a, v, b, w, z):
    """What goes in an exchange from a (in the volume v) to b (in w) by the share z; below 0 it goes from b to a."""
    if v + w == 0:
        return 0
    if a * w >= b * v:
        return (a * w - b * v) * z // (1000 * (v + w))
    # The sign is turned behind the division: rounding down a number below 0 would take one too many.
    return -((b * v - a * w) * z // (1000 * (v + w)))


class Solute:
    """The masses of one solute, its settings, its totals, and what is counted since the mark."""

    def __init__(self):
        self.share = 0
        self.fresh = 0
        self.growth = 0
        self.pool1 = 0
        self.pool2 = 0
        self.blood = []
        self.bath = []
        self.given = 0
        self.produced = 0
        self.come = 0
        self.spent = 0
        self.thrown = 0
        self.went_in = 0
        self.came_out = 0
        self.at_mark = 0

    def lay_cells(self, cells):
        """Empty cells come in the place of the old ones, whose content is thrown away."""
        self.thrown += sum(self.blood) + sum(self.bath)
        self.blood = [0] * cells
        self.bath = [0] * cells

    def dose(self, which, mass):
        if which == 0:
            self.pool1 += mass
        else:
            self.pool2 += mass
        self.given += mass

    def mark(self):
        """From now on it is counted anew what goes in and comes out, and held against what is in pool 1 now."""
        self.went_in = 0
        self.came_out = 0
        self.at_mark = self.pool1

    def totals(self):
        """The five totals, then what is held: in pool 1, in pool 2, in all blood cells, in all bath cells."""
        counted = [self.given, self.produced, self.come, self.spent, self.thrown]
        return counted + [self.pool1, self.pool2, sum(self.blood), sum(self.bath)]

    def twin(self):
        """A copy with cells of its own, so that ticks of the one leave the other as it is."""
        other = Solute()
        other.share = self.share
        other.fresh = self.fresh
        other.growth = self.growth
        other.pool1 = self.pool1
        other.pool2 = self.pool2
        other.blood = list(self.blood)
        other.bath = list(self.bath)
        other.given = self.given
        other.produced = self.produced
        other.come = self.come
        other.spent = self.spent
        other.thrown = self.thrown
        other.went_in = self.went_in
        other.came_out = self.came_out
        other.at_mark = self.at_mark
        return other

    def tick(self, device, blood_moves, bath_moves):
        """The four steps of a tick, in their order."""
        self.mix_pools(device)
        if blood_moves:
            self.move_blood(device)
        if bath_moves:
            self.move_bath(device.along)
        self.cross_membrane(device)

    def mix_pools(self, device):
        self.pool2 += self.growth
        self.produced += self.growth
        gone = crossing(self.pool1, device.volume1, self.pool2, device.volume2, device.between)
        self.pool1 -= gone
        self.pool2 += gone

    def move_blood(self, device):
        last = self.blood[-1]
        again = last * device.round_share // 1000
        volume = device.blood_volume - device.blood_volume * device.round_share // 1000
        # Drawn from what is in pool 1 before this tick's blood comes back to it.
        drawn = self.pool1 * volume // device.volume1
        self.pool1 += last - again - drawn
        self.blood = [again + drawn] + self.blood[:-1]
        self.went_in += again + drawn
        self.came_out += last

    def move_bath(self, along):
        if along:
            self.spent += self.bath[-1]
            self.bath = [self.fresh] + self.bath[:-1]
        else:
            self.spent += self.bath[0]
            self.bath = self.bath[1:] + [self.fresh]
        self.come += self.fresh

    def cross_membrane(self, device):
        blood = self.blood
        bath = self.bath
        for i in range(device.cells):
            gone = crossing(blood[i], device.blood_volume, bath[i], device.bath_volume, self.share)
            blood[i] -= gone
            bath[i] += gone
