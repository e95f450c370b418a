"""How far a book is back, and rows whose book is back as far as it may be."""

import random
import unittest

from houses import SMALL, name
from kinds import FORTY, NO_NUMBERS, VAST
from namehouses.clocks import Clock, apart
from namehouses.errors import Ended, NoTime
from namehouses.shapes import Shape, name_of, parts_of
from namehouses.world import World, back_by, meeting
from worlds import HOLDERS, clock_by_chance

RUNS = Clock(0, [])


def back_of(shape, book, one, other):
    """By how much two rows, by their places, are back; None where they aren't to be told of."""
    if not one < other or book[one][1] == book[other][1]:
        return None
    return parts_of(shape, book[one][2])[0] - parts_of(shape, book[other][2])[0]


def slow_back(shape, book):
    every = range(len(book))
    found = [back_of(shape, book, one, other) for other in every for one in every]
    return max([each for each in found if each is not None], default=None)


class TestBackBy(unittest.TestCase):
    def check(self, shape, book):
        told = back_by(shape, book)
        slow = slow_back(shape, book)
        if slow is None:
            self.assertIsNone(told)
        else:
            self.assertIsInstance(told, tuple)
            by, one, other = told
            self.assertEqual(by, slow)
            self.assertEqual(back_of(shape, book, one, other), slow)
        return told

    def book(self, *rows):
        return [(0, holder, name(moment, 0, 0)) for holder, moment in rows]

    def test_none(self):
        for rows in [[], [("anna", 5)], [("anna", 5), ("anna", 9)], [("anna", 9), ("anna", 5), ("anna", 5)]]:
            self.assertIsNone(back_by(SMALL, self.book(*rows)))

    def test_two_rows(self):
        for one, other in [(5, 5), (9, 5), (5, 9), (99, 0), (0, 99)]:
            told = back_by(SMALL, self.book(("anna", one), ("bert", other)))
            self.assertEqual(told, (one - other, 0, 1))
            self.assertIsInstance(told, tuple)

    def test_by_moments_not_by_names(self):
        book = [(0, "anna", name(5, 3, 4)), (0, "bert", name(5, 0, 0))]
        self.assertEqual(back_by(SMALL, book), (0, 0, 1))

    def test_times_do_not_matter(self):
        book = [(50, "anna", name(9, 3, 4)), (-3, "bert", name(5, 0, 0)), (-3, "anna", name(6, 0, 0))]
        self.assertEqual(back_by(SMALL, book), (4, 0, 1))

    def test_rows_of_the_same_holder_are_passed_over(self):
        self.assertEqual(back_by(SMALL, self.book(("anna", 90), ("anna", 1), ("bert", 85))), (5, 0, 2))
        self.assertEqual(back_by(SMALL, self.book(("bert", 10), ("anna", 90), ("anna", 1))), (9, 0, 2))
        self.assertEqual(back_by(SMALL, self.book(("bert", 40), ("anna", 90), ("anna", 1), ("bert", 80))), (39, 0, 2))
        # The highest two are of one holder, and so is the lowest one.
        rows = [("carl", 30), ("anna", 80), ("anna", 90), ("bert", 45), ("anna", 10)]
        self.assertEqual(back_by(SMALL, self.book(*rows)), (45, 2, 3))
        rows = [("carl", 30), ("anna", 80), ("anna", 90), ("bert", 70), ("anna", 10)]
        self.assertEqual(back_by(SMALL, self.book(*rows)), (60, 3, 4))

    def test_rows_ahead_alone(self):
        rows = [("anna", 10), ("bert", 12), ("anna", 14), ("bert", 90)]
        self.assertEqual(self.check(SMALL, self.book(*rows))[0], -2)

    def test_against_all_pairs(self):
        chance = random.Random(32)
        for turn in range(600):
            shape = Shape(chance.choice([3, 10, 40]), chance.randint(1, 3), chance.randint(1, 3))
            holders = HOLDERS[:chance.randint(1, 5)]
            most = shape.moments * shape.houses * shape.counts
            book = [
                (turn, chance.choice(holders), chance.randrange(most)) for place in range(chance.randint(0, 14))]
            before = list(book)
            self.check(shape, book)
            self.assertEqual(book, before)

    def test_forty_figures(self):
        shape = Shape(FORTY, FORTY, FORTY)
        last = name_of(shape, FORTY - 1, FORTY - 1, FORTY - 1)
        self.assertEqual(back_by(shape, [(0, "anna", last), (0, "bert", 0)]), (FORTY - 1, 0, 1))
        self.assertEqual(back_by(shape, [(0, "anna", 0), (0, "bert", last)]), (1 - FORTY, 0, 1))

    def test_of_a_world(self):
        world = World(SMALL, 0, 0, {"anna": Clock(5, []), "bert": RUNS})
        self.assertIsNone(back_by(SMALL, world.book()))
        for row in [("lease", 0, "anna", 1, 90), ("lease", 0, "bert", 2, 90), ("ask", 10, "anna", 1)]:
            world.put(row)
        self.assertIsNone(back_by(SMALL, world.book()))
        world.put(("ask", 12, "bert", 2))
        self.assertEqual(self.check(SMALL, world.book())[:2], (3, 0))


class TestMeeting(unittest.TestCase):
    def check(self, shape, ahead, one, other, begin, end):
        by = apart(one, other, begin, end)[0] + ahead
        rows = meeting(shape, ahead, one, other, begin, end)
        self.assertIsInstance(rows, list)
        for row in rows:
            self.assertIn(row[0], ("lease", "ask"))
            self.assertIn(row[2], ("one", "two"))
            self.assertLessEqual(begin, row[1])
            self.assertLessEqual(row[1], end)
        for stride in [0, 1, 7, FORTY]:
            world = World(shape, ahead, stride, {"two": other, "one": one})
            for row in rows:
                world.put(row)
            self.assertEqual(back_by(shape, world.book())[0], by)

    def test_by_clocks_that_run(self):
        for ahead in [0, 1, 2, 30]:
            self.check(SMALL, ahead, RUNS, RUNS, 5, 20)
            self.check(SMALL, ahead, Clock(9, []), RUNS, 5, 20)
            self.check(SMALL, ahead, RUNS, Clock(9, []), 5, 20)
            self.check(SMALL, ahead, RUNS, RUNS, 5, 5)

    def test_by_clocks_that_turn(self):
        for ahead in [0, 1, 10]:
            for clock in [
                Clock(0, [(10, 10, False)]), Clock(0, [(10, 50, True)]), Clock(0, [(10, 2, True)]),
                Clock(0, [(10, 50, False), (12, 0, True), (14, 30, True)]), Clock(3, [(-5, 9, False)]),
            ]:
                self.check(SMALL, ahead, clock, RUNS, 5, 20)
                self.check(SMALL, ahead, RUNS, clock, 5, 20)
                self.check(SMALL, ahead, clock, clock, 5, 20)

    def test_two_houses_one_count(self):
        for ahead in [0, 1, 7]:
            self.check(Shape(20, 2, 1), ahead, Clock(2, []), RUNS, 5, 9)

    def test_to_the_last_moment(self):
        # The readings are 9 and 5, with the ahead 99 and 5.
        self.check(SMALL, 90, Clock(4, []), RUNS, 5, 5)
        self.check(Shape(10, 4, 5), 0, Clock(4, []), RUNS, 5, 5)
        self.check(Shape(1, 2, 1), 0, RUNS, RUNS, 0, 0)
        self.check(SMALL, 0, RUNS, Clock(0, []), 0, 0)
        self.check(SMALL, 0, Clock(-99, []), RUNS, 99, 99)

    def test_forty_figures(self):
        shape = Shape(FORTY, FORTY, FORTY)
        half = FORTY // 2
        self.check(shape, half, Clock(half, []), RUNS, 0, 0)
        self.check(shape, half - 1, Clock(0, [(half, half, False)]), Clock(0, [(half, 7, True)]), half - 9, half + 9)
        self.check(shape, 0, Clock(-FORTY + 1, []), Clock(-FORTY, []), FORTY, FORTY)

    def test_no_times(self):
        one_house = Shape(100, 1, 5)
        for shape in [SMALL, one_house]:
            for wrong in NO_NUMBERS:
                for begin, end in [(wrong, 5), (5, wrong), (wrong, wrong), (500, wrong)]:
                    self.assertRaises(NoTime, meeting, shape, 0, RUNS, RUNS, begin, end)
            for begin, end in [(5, 4), (0, -1), (FORTY, 0), (FORTY, -FORTY), (500, 499)]:
                self.assertRaises(NoTime, meeting, shape, 0, RUNS, RUNS, begin, end)

    def test_no_ahead(self):
        for wrong in NO_NUMBERS + [-1, -FORTY, -VAST]:
            for shape in [SMALL, Shape(1, 1, 1)]:
                self.assertRaises(NoTime, meeting, shape, wrong, RUNS, RUNS, 5, 9)

    def test_one_house_alone(self):
        for moments, counts in [(100, 5), (1, 1), (FORTY, FORTY)]:
            self.assertRaises(Ended, meeting, Shape(moments, 1, counts), 0, RUNS, RUNS, 0, 0)

    def test_readings_that_are_no_moments(self):
        for ahead, one, other, begin, end in [
            (0, Clock(-6, []), RUNS, 5, 5), (0, RUNS, Clock(-6, []), 5, 5), (0, Clock(95, []), RUNS, 5, 5),
            (0, RUNS, Clock(95, []), 5, 5), (91, Clock(4, []), RUNS, 5, 5), (FORTY, RUNS, RUNS, 5, 5),
            (0, RUNS, RUNS, -5, -1), (0, RUNS, RUNS, 100, 200), (1, RUNS, RUNS, 99, 99),
            # With the ahead it would be a moment, but the reading itself is none.
            (10, Clock(-6, []), RUNS, 5, 5),
        ]:
            self.assertRaises(Ended, meeting, SMALL, ahead, one, other, begin, end)

    def test_just_the_times_told_count(self):
        # Other times that are as far apart would do; the least ones are at readings below nought.
        self.assertEqual(apart(RUNS, RUNS, -3, 20), (0, -3, -3))
        self.assertRaises(Ended, meeting, SMALL, 0, RUNS, RUNS, -3, 20)

    def test_by_chance(self):
        chance = random.Random(33)
        met = ended = 0
        for turn in range(500):
            shape = Shape(chance.choice([5, 20, 60]), chance.choice([1, 2, 2, 3, 5]), chance.randint(1, 3))
            ahead = chance.choice([0, 0, 1, 2, 9])
            one, other = clock_by_chance(chance, 30), clock_by_chance(chance, 30)
            begin = chance.randint(-3, 20)
            end = begin + chance.choice([0, 1, 5, 20])
            by, early, late = apart(one, other, begin, end)
            high, low = one.reading(early), other.reading(late)
            if shape.houses > 1 and all(moment in range(shape.moments) for moment in [high, low, high + ahead]):
                self.check(shape, ahead, one, other, begin, end)
                met += 1
            else:
                self.assertRaises(Ended, meeting, shape, ahead, one, other, begin, end)
                ended += 1
        self.assertGreater(min(met, ended), 100)

    def test_a_told_list_is_the_askers_own(self):
        told = meeting(SMALL, 1, RUNS, RUNS, 5, 9)
        before = list(told)
        told.clear()
        self.assertEqual(meeting(SMALL, 1, RUNS, RUNS, 5, 9), before)
