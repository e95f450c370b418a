"""The common book once more, kept moment by moment: what the quick one is held against, over small shapes."""

from namehouses.errors import Ended, NoLease, NoTime


class SlowCommon:
    def __init__(self, shape):
        self.shape = shape
        # Which grant has a house's moment.
        self.owners = {}
        self.grants = []

    def is_free(self, house, begin, span):
        if begin + span > self.shape.moments:
            return False
        return not any((house, moment) in self.owners for moment in range(begin, begin + span))

    def let(self, holder, house, moment, span):
        moment = max(moment, 0)
        if house is None:
            tries = [(tried, moment) for tried in range(self.shape.houses)]
        else:
            tries = [(house, tried) for tried in range(moment, self.shape.moments)]
        for house, begin in tries:
            if self.is_free(house, begin, span):
                for taken in range(begin, begin + span):
                    self.owners[house, taken] = len(self.grants)
                self.grants.append([holder, (house, begin, begin + span), begin + span, False])
                return (house, begin, begin + span)
        raise Ended("slow")

    def cut(self, lease, used):
        for number, grant in enumerate(self.grants):
            if grant[1] == lease and not grant[3]:
                house, first, until = lease
                if used is not None and used not in range(first, until):
                    raise NoTime("slow")
                grant[2] = first if used is None else used + 1
                grant[3] = True
                for moment in range(grant[2], until):
                    assert self.owners.pop((house, moment)) == number
                return None
        raise NoLease("slow")

    def leases(self):
        return [(holder, lease[0], lease[1], until) for holder, lease, until, is_cut in self.grants]

    def holder_of(self, name):
        above = name // self.shape.counts
        number = self.owners.get((above % self.shape.houses, above // self.shape.houses))
        return None if number is None else self.grants[number][0]
