"""The world: holders with their clocks and houses, one common book, and the book of all names that were given."""

from namehouses.clocks import Clock, apart
from namehouses.common import Common, is_holder
from namehouses.errors import Backward, Ended, NoHolder, NoRow, NoTime
from namehouses.house import House
from namehouses.rows import HOLDER, HOUSE, MANY, SPAN, TIME, WORD, is_row
from namehouses.shapes import is_below, is_from_nought, parts_of


def are_clocks(thing):
    if not isinstance(thing, dict) or len(thing) == 0:
        return False
    return all([is_holder(holder) and isinstance(thing[holder], Clock) for holder in thing])


class Seat:
    """What the world has for a holder: the clock, the house, and the last note that the house's keeper got."""

    def __init__(self, clock):
        self.clock = clock
        self.house = None
        self.kept = None

    def jot(self, note):
        self.kept = note


class World:
    def __init__(self, shape, ahead, stride, clocks):
        if not are_clocks(clocks):
            raise NoHolder("a world has a dict of one clock for each of some holders")
        self.shape = shape
        self.ahead = ahead
        self.stride = stride
        self.common = Common(shape)
        self.given = []
        self.now = None
        self.seats = {}
        for holder in clocks:
            seat = Seat(clocks[holder])
            self.come_up(seat)
            self.seats[holder] = seat

    def come_up(self, seat):
        seat.house = House(self.shape, self.ahead, self.stride, lambda note: seat.jot(note), seat.kept)

    def put(self, row):
        self.check_row(row)
        names = self.done(row)
        self.now = row[TIME]
        self.given.extend([(row[TIME], row[HOLDER], name) for name in names])
        return names

    def check_row(self, row):
        if not is_row(row):
            raise NoRow("no row of a world")
        if self.now is not None and row[TIME] < self.now:
            raise Backward(self.now)
        # Not every thing can be looked up in a dict: so it is asked first whether it is a holder at all.
        if not is_holder(row[HOLDER]) or row[HOLDER] not in self.seats:
            raise NoHolder("no holder of the world")

    def done(self, row):
        """Do what the row tells; the names that were given."""
        seat = self.seats[row[HOLDER]]
        reading = seat.clock.reading(row[TIME])
        if row[WORD] == "ask":
            return seat.house.ask(reading, row[MANY])
        if row[WORD] == "take":
            return seat.house.take(row[MANY])
        if row[WORD] == "store":
            seat.house.store(reading, row[MANY])
        elif row[WORD] == "lease":
            seat.house.take_lease(self.common.let(row[HOLDER], row[HOUSE], reading, row[SPAN]))
        elif row[WORD] == "back":
            told = seat.house.give_back()
            self.common.cut(told[0], told[1])
        elif row[WORD] == "fall":
            self.come_up(seat)
        else:
            seat.kept = None
            self.come_up(seat)
        return []

    def book(self):
        return list(self.given)

    def leases(self):
        return self.common.leases()

    def holder_of(self, name):
        return self.common.holder_of(name)


def highest_two(highs, high):
    """The highest and the highest of another holder, of some tuples (moment, place, holder) and one more."""
    found = []
    for one in sorted(highs + [high], reverse=True):
        if all([one[2] != other[2] for other in found]):
            found.append(one)
    return found[:2]


def back_by(shape, book):
    found = []
    # Of the highest row so far and the highest one of another holder, one is always of another holder than the next.
    highs = []
    for place in range(len(book)):
        holder = book[place][1]
        moment = parts_of(shape, book[place][2])[0]
        others = [high for high in highs if high[2] != holder]
        if len(others) > 0:
            found.append((others[0][0] - moment, others[0][1], place))
        highs = highest_two(highs, (moment, place, holder))
    return max(found, default=None)


def meeting(shape, ahead, one, other, begin, end):
    if not is_from_nought(ahead):
        raise NoTime("ahead is a whole number from 0 on")
    told = apart(one, other, begin, end)
    early = told[1]
    late = told[2]
    high = one.reading(early)
    needed = [high, high + ahead, other.reading(late)]
    if shape.houses == 1 or not all([is_below(moment, shape.moments) for moment in needed]):
        raise Ended("the shape has no room for it")
    rows = [
        ("lease", early, "one", 0, 1), ("ask", early, "one", 1),
        ("lease", late, "two", 1, 1), ("ask", late, "two", 1),
    ]
    if ahead == 0:
        return rows
    # What is let first leaves the next lease of this house to begin just at the reading and ahead.
    return [("lease", early, "one", 0, ahead)] + rows
