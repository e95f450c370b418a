"""Many rows put to worlds of up to eight holders, whose clocks run, stand, jump on and step back."""

import random
import unittest

from namehouses.clocks import apart
from namehouses.errors import HouseError
from namehouses.shapes import Shape, parts_of
from namehouses.world import World, back_by
from outcomes import outcome
from slow_world import SlowWorld
from worlds import makings_by_chance, now_of, rows_by_chance, seen


class TestAgainstASlowWorld(unittest.TestCase):
    def play(self, chance, shape):
        makings = makings_by_chance(chance, shape)
        holders = list(makings[3])
        quick = World(*makings)
        slow = SlowWorld(*makings)
        told = set()
        for row in rows_by_chance(chance, shape, holders, 120):
            found = outcome(quick.put, row)
            self.assertEqual(found, outcome(slow.put, row), row)
            self.assertEqual(quick.leases(), slow.leases())
            told.add((row[0], found[1] if found[0] == "refused" else found[0]))
        self.assertEqual(quick.book(), slow.book())
        for name in range(shape.moments * shape.houses * shape.counts):
            self.assertEqual(quick.holder_of(name), slow.holder_of(name))
        return told

    def test_many_runs(self):
        chance = random.Random(8)
        told = set()
        for turn in range(80):
            told |= self.play(chance, Shape(chance.randint(8, 30), chance.randint(1, 3), chance.randint(1, 3)))
        # All that can come of a row came.
        for word, refusals in [
            ("lease", ["Ended"]), ("ask", ["NoLease", "Wait"]), ("store", ["NoLease", "Wait"]), ("take", ["Empty"]),
            ("back", ["NoLease"]), ("fall", []), ("bare", []),
        ]:
            for each in ["told", "Backward", "NoHolder"] + refusals:
                self.assertIn((word, each), told)


class TestRefusedChangesNothing(unittest.TestCase):
    def test_beside_a_world_that_is_put_right_rows_alone(self):
        chance = random.Random(30)
        for turn in range(60):
            shape = Shape(chance.randint(10, 60), chance.randint(1, 5), chance.randint(1, 5))
            makings = makings_by_chance(chance, shape)
            world = World(*makings)
            clean = World(*makings)
            for row in rows_by_chance(chance, shape, list(makings[3]), 150):
                try:
                    told = world.put(row)
                except HouseError:
                    continue
                self.assertEqual(clean.put(row), told)
                self.assertEqual(now_of(world), row[1])
            self.assertEqual(seen(world), seen(clean))


class TestWhatHoldsOfEachBook(unittest.TestCase):
    def check_rises(self, rows):
        """The names of each holder rise from one bare to the next."""
        lasts = {}
        for row, told in rows:
            if row[0] == "bare":
                lasts.pop(row[2], None)
            for name in told:
                self.assertGreater(name, lasts.get(row[2], -1))
                lasts[row[2]] = name

    def check_holders(self, world):
        for time, holder, name in world.book():
            self.assertEqual(world.holder_of(name), holder)

    def check_bound(self, makings, asked):
        """Two rows that were asked are back by no more than ahead and their clocks' being apart."""
        shape, ahead, stride, clocks = makings
        for place, (late, other, low) in enumerate(asked):
            for early, one, high in asked[:place]:
                if one != other:
                    back = parts_of(shape, high)[0] - parts_of(shape, low)[0]
                    self.assertLessEqual(back, ahead + apart(clocks[one], clocks[other], early, late)[0])

    def play(self, chance, shape):
        makings = makings_by_chance(chance, shape)
        world = World(*makings)
        done = []
        asked = []
        for row in rows_by_chance(chance, shape, list(makings[3]), 200):
            try:
                told = world.put(row)
            except HouseError:
                continue
            done.append((row, told))
            if row[0] == "ask":
                asked += [(row[1], row[2], name) for name in told]
            if row[0] in ("back", "bare", "lease"):
                self.check_holders(world)
        self.check_holders(world)
        book = world.book()
        self.assertEqual(book, [(row[1], row[2], name) for row, told in done for name in told])
        self.assertEqual(len({name for time, holder, name in book}), len(book))
        self.check_rises(done)
        self.check_bound(makings, asked[:80])
        return book

    def test_many_runs(self):
        chance = random.Random(31)
        many = backs = 0
        for turn in range(150):
            shape = Shape(chance.randint(30, 80), chance.randint(1, 16), chance.randint(1, 8))
            book = self.play(chance, shape)
            many += len(book)
            back = back_by(shape, book)
            backs += back is not None and back[0] > 0
        self.assertGreater(many, 4000)
        self.assertGreater(backs, 40)
