"""A house: it gives names by readings of a clock, keeps some in store, and a note by which it comes up behind a fall.

The names of one house's number are counted by places, moment * counts + count: what is given or stored at once is
a batch of places, each behind the other, also where it goes on from one moment to the next.
"""

from namehouses.errors import Empty, Fallen, NoLease, NoNote, NoTime, TooMany, Wait
from namehouses.leases import FIRST, HOUSE, UNTIL, check_lease, is_lease, used_of
from namehouses.shapes import is_below, is_from_nought, is_size, is_whole, name_of, parts_of


def is_note(shape, thing):
    if not isinstance(thing, tuple) or len(thing) != 2:
        return False
    if not (thing[0] is None or is_lease(shape, thing[0])):
        return False
    return thing[1] is None or is_below(thing[1], shape.moments)


class Batch:
    """Places from begin on and below end. Names aren't written out till they are told: far more may be in store."""

    def __init__(self, house, begin, end):
        self.house = house
        self.begin = begin
        self.end = end


def name_at(shape, house, place):
    return name_of(shape, place // shape.counts, house, place % shape.counts)


def names_of_batch(shape, batch):
    return [name_at(shape, batch.house, place) for place in range(batch.begin, batch.end)]


def size_of(batches):
    return sum([batch.end - batch.begin for batch in batches])


def parted(batches, many):
    """The first ones, so many, and those behind them: two lists of batches."""
    firsts = []
    others = []
    rest = many
    for batch in batches:
        middle = min(batch.begin + rest, batch.end)
        rest = rest - (middle - batch.begin)
        firsts.append(Batch(batch.house, batch.begin, middle))
        others.append(Batch(batch.house, middle, batch.end))
    return (firsts, [batch for batch in others if batch.begin < batch.end])


def place_above(shape, house, name):
    """The place of the least name of the house that is above the told one."""
    parts = parts_of(shape, name)
    if parts[1] < house:
        return parts[0] * shape.counts
    if parts[1] > house:
        return (parts[0] + 1) * shape.counts
    return parts[0] * shape.counts + parts[2] + 1


class House:
    def __init__(self, shape, ahead, stride, keeper, note=None):
        if not (is_from_nought(ahead) and is_from_nought(stride)):
            raise NoTime("ahead and stride are whole numbers from 0 on")
        if note is not None and not is_note(shape, note):
            raise NoNote("no note of the shape")
        self.shape = shape
        self.ahead = ahead
        self.stride = stride
        self.keeper = keeper
        self.lease = None if note is None else note[0]
        self.mark = None if note is None else note[1]
        self.newest = None
        self.batches = []
        self.has_fallen = False

    def take_lease(self, lease):
        self.check_up()
        check_lease(self.shape, lease)
        self.keep(lease, self.mark)

    def ask(self, reading, many=1):
        batch = self.hand_out(reading, many)
        self.batches = []
        return names_of_batch(self.shape, batch)

    def store(self, reading, many=1):
        batch = self.hand_out(reading, many)
        self.batches.append(batch)
        return size_of(self.batches)

    def take(self, many=1):
        self.check_up()
        if not is_size(many):
            raise TooMany("so many are whole numbers from 1 on")
        if size_of(self.batches) < many:
            raise Empty("fewer are in store")
        parts = parted(self.batches, many)
        self.batches = parts[1]
        names = []
        for batch in parts[0]:
            names.extend(names_of_batch(self.shape, batch))
        return names

    def give_back(self):
        self.check_up()
        self.check_has_lease()
        told = (self.lease, used_of(self.lease, self.last_moment()))
        self.keep(None, self.mark)
        self.batches = []
        return told

    def last(self):
        return self.newest

    def note(self):
        return (self.lease, self.mark)

    def check_up(self):
        if self.has_fallen:
            raise Fallen("the house has fallen")

    def check_has_lease(self):
        if self.lease is None:
            raise NoLease("the house has no lease")

    def last_moment(self):
        if self.newest is None:
            # Nothing was given: so the mark is still that of the note of which the house was made.
            return self.mark
        return parts_of(self.shape, self.newest)[0]

    def hand_out(self, reading, many):
        self.check_up()
        batch = self.next_batch(reading, many)
        self.keep(self.lease, self.mark_behind((batch.end - 1) // self.shape.counts))
        self.newest = name_at(self.shape, batch.house, batch.end - 1)
        return batch

    def next_batch(self, reading, many):
        if not is_size(many) or many > self.shape.counts:
            raise TooMany("so many are whole numbers from 1 on up to the shape's counts")
        if not is_whole(reading):
            raise NoTime("a reading is a whole number")
        self.check_has_lease()
        least = max(self.lease[FIRST], reading) * self.shape.counts
        begin = max(self.free_place(), least)
        end = begin + many
        if end > self.lease[UNTIL] * self.shape.counts:
            raise NoLease("the lease has not so many names")
        by = (end - 1) // self.shape.counts - (reading + self.ahead)
        if by > 0:
            raise Wait(by)
        return Batch(self.lease[HOUSE], begin, end)

    def free_place(self):
        """The least place of the lease's house that doesn't count as given."""
        if self.newest is not None:
            return place_above(self.shape, self.lease[HOUSE], self.newest)
        if self.mark is not None:
            return (self.mark + 1) * self.shape.counts
        return 0

    def mark_behind(self, moment):
        if self.mark is not None and moment <= self.mark:
            return self.mark
        return min(moment + self.stride, self.shape.moments - 1)

    def keep(self, lease, mark):
        if (lease, mark) == self.note():
            return
        # Whatever the keeper raises, it goes through, and the next row isn't come to: the house stays fallen.
        self.has_fallen = True
        self.keeper((lease, mark))
        self.has_fallen = False
        self.lease = lease
        self.mark = mark
