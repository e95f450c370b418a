"""The common book: it lets houses' numbers to holders for stretches of moments, and takes back what wasn't used."""

from namehouses.errors import Ended, NoHolder, NoLease, NoName, NoTime
from namehouses.leases import FIRST, HOUSE, UNTIL, check_lease
from namehouses.shapes import is_below, is_size, is_whole, parts_of

LETTERS = "abcdefghijklmnopqrstuvwxyz"
LONGEST_HOLDER = 8


def is_holder(thing):
    if not isinstance(thing, str) or not 1 <= len(thing) <= LONGEST_HOLDER:
        return False
    return all([sign in LETTERS for sign in thing])


class Grant:
    """A lease as it was let, by which it is known when it is cut, and until when it is now."""

    def __init__(self, holder, lease):
        self.holder = holder
        self.lease = lease
        self.until = lease[UNTIL]
        self.is_cut = False


def meets(grant, first, until):
    # Of a lease that was cut to nothing this is never so.
    return max(grant.lease[FIRST], first) < min(grant.until, until)


def least_begin(grants, moment, span):
    """The least begin, not below the moment, of a stretch that meets no grant of one house."""
    begin = moment
    for grant in sorted(grants, key=lambda one: one.lease[FIRST]):
        if meets(grant, begin, begin + span):
            begin = grant.until
    return begin


def least_house(grants, moment, span):
    """The least house of which no grant meets the stretch that begins at the moment."""
    met = {}
    for grant in grants:
        if meets(grant, moment, moment + span):
            met[grant.lease[HOUSE]] = True
    house = 0
    while house in met:
        house = house + 1
    return house


class Common:
    def __init__(self, shape):
        self.shape = shape
        self.grants = []

    def let(self, holder, house, moment, span):
        self.check_let(holder, house, moment, span)
        lease = self.free_lease(house, max(moment, 0), span)
        if lease[HOUSE] >= self.shape.houses or lease[UNTIL] > self.shape.moments:
            raise Ended("no such stretch is free")
        self.grants.append(Grant(holder, lease))
        return lease

    def check_let(self, holder, house, moment, span):
        if not is_holder(holder):
            raise NoHolder("a holder is a text of one to eight small letters")
        if house is not None and not is_below(house, self.shape.houses):
            raise NoName("no house of the shape")
        if not is_size(span):
            raise NoTime("a span is a whole number from 1 on")
        if not is_whole(moment):
            raise NoTime("a moment is a whole number")

    def free_lease(self, house, moment, span):
        """The lease that would be let, had the shape no end."""
        if house is None:
            return (least_house(self.grants, moment, span), moment, moment + span)
        begin = least_begin(self.grants_of(house), moment, span)
        return (house, begin, begin + span)

    def grants_of(self, house):
        return [grant for grant in self.grants if grant.lease[HOUSE] == house]

    def cut(self, lease, used):
        grant = self.uncut(lease)
        if used is None:
            until = lease[FIRST]
        elif is_whole(used) and lease[FIRST] <= used < lease[UNTIL]:
            until = used + 1
        else:
            raise NoTime("no moment of the lease")
        grant.until = until
        grant.is_cut = True

    def uncut(self, lease):
        # True and False would be found as the numbers 1 and 0: so the kinds are asked first.
        check_lease(self.shape, lease)
        for grant in self.grants:
            if grant.lease == lease and not grant.is_cut:
                return grant
        raise NoLease("no lease that was let and isn't cut")

    def leases(self):
        return [(grant.holder, grant.lease[HOUSE], grant.lease[FIRST], grant.until) for grant in self.grants]

    def holder_of(self, name):
        parts = parts_of(self.shape, name)
        moment = parts[0]
        for grant in self.grants_of(parts[1]):
            if meets(grant, moment, moment + 1):
                return grant.holder
        return None
