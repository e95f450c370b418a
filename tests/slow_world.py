"""A world once more, of slow houses and a slow common book: what the quick one is held against, over small shapes.

It is put right rows alone, whose holder, time and what else may still be refused.
"""
from namehouses.errors import Backward, NoHolder
from slow_common import SlowCommon
from slow_house import SlowHouse


class SlowWorld:
    def __init__(self, shape, ahead, stride, clocks):
        self.made_of = (shape, ahead, stride)
        self.clocks = dict(clocks)
        self.common = SlowCommon(shape)
        self.kept = {holder: [] for holder in clocks}
        self.houses = {holder: self.new_house(holder) for holder in clocks}
        self.times = []
        self.given = []

    def new_house(self, holder):
        kept = self.kept[holder]
        return SlowHouse(*self.made_of, kept.append, kept[-1] if kept else None)

    def put(self, row):
        word, time, holder, *rest = row
        if self.times and time < self.times[-1]:
            raise Backward(self.times[-1])
        if holder not in self.clocks:
            raise NoHolder("slow")
        names = getattr(self, "put_" + word)(holder, self.clocks[holder].reading(time), *rest)
        self.times.append(time)
        self.given += [(time, holder, name) for name in names]
        return names

    def put_lease(self, holder, reading, house, span):
        self.houses[holder].take_lease(self.common.let(holder, house, reading, span))
        return []

    def put_ask(self, holder, reading, many):
        return self.houses[holder].ask(reading, many)

    def put_store(self, holder, reading, many):
        self.houses[holder].store(reading, many)
        return []

    def put_take(self, holder, reading, many):
        return self.houses[holder].take(many)

    def put_back(self, holder, reading):
        self.common.cut(*self.houses[holder].give_back())
        return []

    def put_fall(self, holder, reading):
        self.houses[holder] = self.new_house(holder)
        return []

    def put_bare(self, holder, reading):
        self.kept[holder].clear()
        return self.put_fall(holder, reading)

    def book(self):
        return list(self.given)

    def leases(self):
        return self.common.leases()

    def holder_of(self, name):
        return self.common.holder_of(name)
