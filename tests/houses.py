"""Keepers, and what the tests of a house have in common."""

import unittest

from kinds import FORTY, NO_NUMBERS, VAST
from namehouses.house import House
from namehouses.shapes import Shape, name_of

# Moments 0 to 99, houses 0 to 3, counts 0 to 4.
SMALL = Shape(100, 4, 5)

NO_LEASES = NO_NUMBERS + [
    0, 7, VAST, (0, 0), (0, 0, 10, 10), [0, 0, 10], ("anna", 0, 0, 10), ((0, 0, 10),), (False, 0, 10), (0, False, 10),
    (0, 0, True), (0, 0, None), (0, 0, "10"), (None, 0, 10), (0, None, 10), (0, [0], 10), (0, 0, {}), ({}, {}, {}),
    (0, 10, 10), (0, 10, 9), (0, 10, 0), (0, 0, 0), (-1, 0, 10), (0, -1, 10), (4, 0, 10), (5, 0, 10), (0, 0, 101),
    (0, 100, 101), (0, 99, 101), (0, 0, -1), (0, 0, VAST), (VAST, 0, 10), (0, -VAST, 10), (0, 0, FORTY), "lease",
]
# NO_NUMBERS has a tuple that is a lease of the shape.
NO_LEASES = [thing for thing in NO_LEASES if thing != (0, 1, 2)]
NO_MANIES = NO_NUMBERS + [0, -1, -FORTY, VAST, -VAST]


class Broken(Exception):
    pass


class Keeper:
    """It writes down what it is called with, and raises while it is told to."""

    def __init__(self):
        self.notes = []
        self.raises = None

    def __call__(self, *given):
        self.notes.append(given)
        if self.raises is not None:
            raise self.raises


def name(moment, house, count):
    return name_of(SMALL, moment, house, count)


def names(*parts):
    return [name(*each) for each in parts]


def state(house):
    """All that can be seen of a house without turning it."""
    return (house.last(), house.note())


def in_store(house, most=1000):
    """What a house has in store: it is taken out."""
    found = []
    for turn in range(most):
        try:
            found.extend(house.take())
        except ValueError:
            return found


class HouseCase(unittest.TestCase):
    def made(self, lease=None, ahead=0, stride=0, shape=SMALL, note=None):
        self.keeper = Keeper()
        house = House(shape, ahead, stride, self.keeper, note)
        if lease is not None:
            house.take_lease(lease)
        self.keeper.notes.clear()
        return house

    def kept(self):
        """The notes with which the keeper was called since this was asked last."""
        found = list(self.keeper.notes)
        self.keeper.notes.clear()
        for given in found:
            self.assertEqual(len(given), 1)
            self.assertIsInstance(given[0], tuple)
        return [given[0] for given in found]

    def assert_refused(self, house, refusal, call, *given):
        before = (state(house), len(self.keeper.notes))
        with self.assertRaises(refusal) as taken:
            call(*given)
        self.assertEqual((state(house), len(self.keeper.notes)), before)
        return taken.exception
