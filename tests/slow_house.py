"""A house once more, that walks all names of its shape: what the quick one is held against, over small shapes."""

from namehouses.errors import Empty, Fallen, NoLease, TooMany, Wait


class SlowHouse:
    def __init__(self, shape, ahead, stride, keeper, note=None):
        self.shape = shape
        self.ahead = ahead
        self.stride = stride
        self.keeper = keeper
        self.kept = (None, None) if note is None else note
        self.made_mark = self.kept[1]
        # All that was given or stored, in order.
        self.gone = []
        self.stored = []
        self.is_down = False

    def moment_of(self, name):
        return name // (self.shape.houses * self.shape.counts)

    def counts_as_given(self, name):
        if self.gone:
            return name <= self.gone[-1]
        return self.made_mark is not None and self.moment_of(name) <= self.made_mark

    def fits(self, name, reading):
        house, first, until = self.kept[0]
        return (
            not self.counts_as_given(name) and name // self.shape.counts % self.shape.houses == house
            and first <= self.moment_of(name) < until and self.moment_of(name) >= reading
        )

    def turn(self, note):
        if note != self.kept:
            try:
                self.keeper(note)
            except Exception:
                self.is_down = True
                raise
            self.kept = note

    def check(self):
        if self.is_down:
            raise Fallen("slow")

    def take_lease(self, lease):
        self.check()
        self.turn((lease, self.kept[1]))

    def new_names(self, reading, many):
        self.check()
        if not 1 <= many <= self.shape.counts:
            raise TooMany("slow")
        if self.kept[0] is None:
            raise NoLease("slow")
        every = range(self.shape.moments * self.shape.houses * self.shape.counts)
        names = [name for name in every if self.fits(name, reading)][:many]
        if len(names) < many:
            raise NoLease("slow")
        moment = self.moment_of(names[-1])
        if moment > reading + self.ahead:
            raise Wait(moment - reading - self.ahead)
        lease, mark = self.kept
        if mark is None or moment > mark:
            self.turn((lease, min(moment + self.stride, self.shape.moments - 1)))
        self.gone.extend(names)
        return names

    def ask(self, reading, many=1):
        names = self.new_names(reading, many)
        self.stored = []
        return names

    def store(self, reading, many=1):
        self.stored.extend(self.new_names(reading, many))
        return len(self.stored)

    def take(self, many=1):
        self.check()
        if many < 1:
            raise TooMany("slow")
        if len(self.stored) < many:
            raise Empty("slow")
        names, self.stored = self.stored[:many], self.stored[many:]
        return names

    def give_back(self):
        self.check()
        lease, mark = self.kept
        if lease is None:
            raise NoLease("slow")
        up_to = self.moment_of(self.gone[-1]) if self.gone else self.made_mark
        used = [moment for moment in range(lease[1], lease[2]) if up_to is not None and moment <= up_to]
        self.turn((None, mark))
        self.stored = []
        return (lease, used[-1] if used else None)

    def last(self):
        return self.gone[-1] if self.gone else None

    def note(self):
        return self.kept
