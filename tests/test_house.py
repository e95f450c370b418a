import random
import unittest

from houses import NO_LEASES, NO_MANIES, SMALL, HouseCase, Keeper, name, names
from kinds import FORTY, NO_NUMBERS, VAST
from namehouses.errors import NoLease, NoNote, NoTime, TooMany, Wait
from namehouses.house import House
from namehouses.shapes import Shape, name_of, parts_of
from outcomes import outcome
from slow_house import SlowHouse

GREAT = Shape(FORTY, FORTY, FORTY)


class TestMaking(HouseCase):
    def test_at_first(self):
        house = self.made()
        self.assertIsNone(house.last())
        self.assertEqual(house.note(), (None, None))
        self.assertEqual(self.kept(), [])
        self.assert_refused(house, NoLease, house.ask, 0)

    def test_ahead_and_stride_from_nought_on(self):
        for ahead, stride in [(0, 0), (0, 1), (1, 0), (FORTY, FORTY), (7, 200)]:
            House(SMALL, ahead, stride, Keeper())

    def test_no_time(self):
        for wrong in NO_NUMBERS + [-1, -2, -FORTY, -VAST]:
            for ahead, stride in [(wrong, 0), (0, wrong), (wrong, wrong), (wrong, 5), (5, wrong)]:
                for note in [None, (None, None), "no note", ((0, 0, 10), 5), []]:
                    with self.assertRaises(NoTime):
                        House(SMALL, ahead, stride, Keeper(), note)

    def test_no_note_behind_no_time(self):
        with self.assertRaises(NoTime):
            House(SMALL, -1, 0, Keeper(), "no note")
        with self.assertRaises(NoNote):
            House(SMALL, 0, 0, Keeper(), "no note")


class TestTakeLease(HouseCase):
    def test_just_this_one(self):
        house = self.made()
        self.assertIsNone(house.take_lease((1, 10, 20)))
        self.assertEqual(house.ask(10), [name(10, 1, 0)])
        self.assertIsNone(house.take_lease((2, 30, 40)))
        self.assertEqual(house.ask(30), [name(30, 2, 0)])
        self.assert_refused(house, NoLease, house.ask, 40)
        house.take_lease((2, 40, 41))
        self.assertEqual(house.ask(40), [name(40, 2, 0)])

    def test_edges(self):
        house = self.made()
        for lease in [(0, 0, 1), (3, 0, 100), (0, 99, 100), (3, 50, 51)]:
            self.assertIsNone(house.take_lease(lease))
            self.assertEqual(house.note()[0], lease)

    def test_no_lease(self):
        for lease in [None, (1, 10, 20)]:
            house = self.made(lease)
            for wrong in NO_LEASES:
                self.assert_refused(house, NoLease, house.take_lease, wrong)

    def test_a_refused_one_leaves_the_lease(self):
        house = self.made((1, 10, 20))
        self.assert_refused(house, NoLease, house.take_lease, (1, 10, 101))
        self.assertEqual(house.ask(10), [name(10, 1, 0)])


class TestAsk(HouseCase):
    def test_left_out_is_one(self):
        house = self.made((1, 10, 20))
        self.assertEqual(house.ask(10), [name(10, 1, 0)])
        self.assertEqual(house.ask(10), [name(10, 1, 1)])
        self.assertEqual(house.ask(10, 1), [name(10, 1, 2)])

    def test_several(self):
        house = self.made((1, 10, 20))
        self.assertEqual(house.ask(12, 3), names((12, 1, 0), (12, 1, 1), (12, 1, 2)))
        self.assertEqual(house.ask(12, 2), names((12, 1, 3), (12, 1, 4)))
        self.assertEqual(house.ask(13, 5), names(*[(13, 1, count) for count in range(5)]))

    def test_on_into_the_next_moment(self):
        house = self.made((1, 10, 20), ahead=1)
        self.assertEqual(house.ask(10, 4), names((10, 1, 0), (10, 1, 1), (10, 1, 2), (10, 1, 3)))
        self.assertEqual(house.ask(10, 3), names((10, 1, 4), (11, 1, 0), (11, 1, 1)))
        self.assertEqual(house.ask(11, 5), names((11, 1, 2), (11, 1, 3), (11, 1, 4), (12, 1, 0), (12, 1, 1)))

    def test_readings_below_the_lease(self):
        house = self.made((1, 10, 20), ahead=10)
        self.assertEqual(house.ask(0), [name(10, 1, 0)])
        self.assertEqual(self.assert_refused(house, Wait, house.ask, -1).by, 1)
        self.assertEqual(self.assert_refused(house, Wait, house.ask, -FORTY).by, FORTY)
        house = self.made((0, 0, 20), ahead=7)
        self.assertEqual(house.ask(-7), [name(0, 0, 0)])
        self.assertEqual(self.assert_refused(house, Wait, house.ask, -8).by, 1)

    def test_readings_that_stand_jump_on_and_step_back(self):
        house = self.made((1, 0, 100), ahead=3)
        given = [house.ask(reading)[0] for reading in [5, 5, 5, 9, 8, 7, 6, 9, 9, 50, 47, 49, 99]]
        self.assertEqual(given, names(
            (5, 1, 0), (5, 1, 1), (5, 1, 2), (9, 1, 0), (9, 1, 1), (9, 1, 2), (9, 1, 3), (9, 1, 4), (10, 1, 0),
            (50, 1, 0), (50, 1, 1), (50, 1, 2), (99, 1, 0)))
        self.assertEqual(self.assert_refused(house, Wait, house.ask, 95).by, 1)

    def test_standing_clock_runs_ahead_no_farther_than_ahead(self):
        house = self.made((1, 0, 100), ahead=2)
        self.assertEqual([parts_of(SMALL, house.ask(7)[0])[0] for turn in range(15)], [7] * 5 + [8] * 5 + [9] * 5)
        self.assertEqual(self.assert_refused(house, Wait, house.ask, 7).by, 1)
        self.assertEqual(self.assert_refused(house, Wait, house.ask, 7, 5).by, 1)
        self.assertEqual(house.ask(8), [name(10, 1, 0)])
        self.assertEqual(self.assert_refused(house, Wait, house.ask, 8, 5).by, 1)
        self.assertEqual(house.ask(8, 4), names((10, 1, 1), (10, 1, 2), (10, 1, 3), (10, 1, 4)))

    def test_names_rise_over_leases(self):
        house = self.made((2, 10, 20))
        self.assertEqual(house.ask(10, 2), names((10, 2, 0), (10, 2, 1)))
        # A greater house's names of that moment are above, a lesser one's are not, the same one's go on.
        house.take_lease((3, 10, 20))
        self.assertEqual(house.ask(10, 2), names((10, 3, 0), (10, 3, 1)))
        house.take_lease((2, 10, 20))
        self.assertEqual(self.assert_refused(house, Wait, house.ask, 10).by, 1)
        self.assertEqual(house.ask(11), [name(11, 2, 0)])
        house.take_lease((2, 11, 30))
        self.assertEqual(house.ask(11), [name(11, 2, 1)])
        house.take_lease((0, 5, 12))
        self.assert_refused(house, NoLease, house.ask, 11)
        house.take_lease((0, 5, 13))
        self.assertEqual(house.ask(12), [name(12, 0, 0)])
        house.take_lease((1, 50, 60))
        self.assertEqual(self.assert_refused(house, Wait, house.ask, 13).by, 37)
        self.assertEqual(house.ask(50), [name(50, 1, 0)])

    def test_last(self):
        house = self.made((2, 10, 20))
        self.assertIsNone(house.last())
        house.ask(12, 3)
        self.assertEqual(house.last(), name(12, 2, 2))
        self.assert_refused(house, Wait, house.ask, 11)
        house.take_lease((1, 0, 5))
        self.assertEqual(house.last(), name(12, 2, 2))
        house.give_back()
        self.assertEqual(house.last(), name(12, 2, 2))

    def test_a_told_list_is_the_askers_own(self):
        house = self.made((2, 10, 20))
        told = house.ask(10, 2)
        self.assertIsInstance(told, list)
        told.append(name(99, 3, 4))
        told[0] = 0
        self.assertEqual(house.last(), name(10, 2, 1))
        self.assertEqual(house.ask(10), [name(10, 2, 2)])

    def test_forty_figures(self):
        house = self.made((FORTY - 1, FORTY // 2, FORTY), ahead=FORTY, shape=GREAT)
        first = name_of(GREAT, FORTY // 2, FORTY - 1, 0)
        self.assertEqual(house.ask(-FORTY // 3, 3), [first, first + 1, first + 2])
        self.assertEqual(house.ask(FORTY - 1, 1), [name_of(GREAT, FORTY - 1, FORTY - 1, 0)])
        self.assert_refused(house, NoLease, house.ask, 0, FORTY)
        self.assert_refused(house, NoLease, house.ask, FORTY)
        self.assert_refused(house, TooMany, house.ask, 0, FORTY + 1)

    def test_two_thousand_names(self):
        shape = Shape(10, 3, 2000)
        house = self.made((1, 0, 10), ahead=1, shape=shape)
        house.ask(0, 5)
        told = house.ask(0, 2000)
        self.assertEqual(told[:1995], [name_of(shape, 0, 1, count) for count in range(5, 2000)])
        self.assertEqual(told[1995:], [name_of(shape, 1, 1, count) for count in range(5)])


class TestAskRefused(HouseCase):
    def test_too_many(self):
        for lease in [None, (1, 10, 20)]:
            house = self.made(lease)
            for wrong in NO_MANIES + [6, 7, FORTY]:
                for reading in [10, 0, 50, None, True, "a", []]:
                    self.assert_refused(house, TooMany, house.ask, reading, wrong)
                    self.assert_refused(house, TooMany, house.store, reading, wrong)

    def test_counts_are_not_too_many(self):
        house = self.made((1, 10, 20))
        self.assertEqual(len(house.ask(10, 5)), 5)
        house = self.made((0, 0, 3), shape=Shape(3, 1, 1))
        self.assertEqual(house.ask(0, 1), [0])
        self.assert_refused(house, TooMany, house.ask, 1, 2)

    def test_no_time(self):
        for lease in [None, (1, 10, 20)]:
            house = self.made(lease)
            for wrong in NO_NUMBERS:
                for many in [1, 5]:
                    self.assert_refused(house, NoTime, house.ask, wrong, many)
                    self.assert_refused(house, NoTime, house.store, wrong, many)

    def test_no_lease(self):
        house = self.made()
        for reading in [0, 10, -FORTY, FORTY]:
            self.assert_refused(house, NoLease, house.ask, reading)
            self.assert_refused(house, NoLease, house.store, reading, 5)

    def test_readings_behind_the_lease(self):
        house = self.made((1, 10, 20), ahead=50)
        for reading in [20, 21, 99, 100, FORTY]:
            self.assert_refused(house, NoLease, house.ask, reading)
            self.assert_refused(house, NoLease, house.store, reading)
        self.assertEqual(house.ask(19), [name(19, 1, 0)])

    def test_not_so_many_left(self):
        house = self.made((1, 18, 20), ahead=50)
        house.ask(19, 2)
        self.assert_refused(house, NoLease, house.ask, 0, 4)
        self.assert_refused(house, NoLease, house.ask, 19, 4)
        self.assertEqual(house.ask(0, 3), names((19, 1, 2), (19, 1, 3), (19, 1, 4)))
        self.assert_refused(house, NoLease, house.ask, 0, 1)

    def test_no_lease_ahead_of_wait(self):
        house = self.made((1, 10, 11))
        self.assertEqual(self.assert_refused(house, Wait, house.ask, 3, 5).by, 7)
        house.ask(10, 1)
        self.assert_refused(house, NoLease, house.ask, 3, 5)
        self.assertEqual(self.assert_refused(house, Wait, house.ask, 3, 4).by, 7)

    def test_wait_tells_just_by_how_much(self):
        chance = random.Random(17)
        for turn in range(300):
            ahead = chance.randint(0, 4)
            house = self.made((1, chance.randint(0, 20), 60), ahead=ahead)
            asked = [(chance.randint(15, 30), chance.randint(1, 5)) for row in range(chance.randint(0, 6))]
            for row in asked:
                outcome(house.ask, *row)
            reading, many = chance.randint(-5, 20), chance.randint(1, 5)
            came = outcome(house.ask, reading, many)
            if came[1] == "Wait":
                by = came[2]["by"]
                self.assertGreater(by, 0)
                for less in range(by):
                    self.assert_refused(house, Wait, house.ask, reading + less, many)
                told = house.ask(reading + by, many)
                self.assertEqual(len(told), many)
                self.assertEqual(parts_of(SMALL, told[-1])[0], reading + by + ahead)

    def test_fields_of_wait(self):
        house = self.made((1, 10, 20))
        self.assertEqual(vars(self.assert_refused(house, Wait, house.ask, 6)), {"by": 4})


class TestAgainstTheSlowHouse(unittest.TestCase):
    def lease(self, chance, shape):
        first = chance.randrange(shape.moments)
        return (chance.randrange(shape.houses), first, chance.randint(first + 1, shape.moments))

    def row(self, chance, shape, now):
        many = chance.randint(0, shape.counts + 1)
        reading = now + chance.choice([0, 0, 0, 1, -1, -3])
        return chance.choice([
            ("ask", reading, many), ("ask", reading), ("store", reading, many), ("store", reading), ("take", many),
            ("take",), ("take_lease", self.lease(chance, shape)), ("last",), ("note",), ("ask", reading, 1),
            ("give_back",) if chance.random() < 0.5 else ("store", reading, 1),
        ])

    def note(self, chance, shape):
        lease = chance.choice([None, self.lease(chance, shape)])
        return chance.choice([None, (lease, None), (lease, chance.randrange(shape.moments))])

    def test_many_runs(self):
        chance = random.Random(18)
        for turn in range(500):
            shape = Shape(chance.randint(1, 25), chance.randint(1, 3), chance.randint(1, 4))
            made = (shape, chance.randint(0, 3), chance.randint(0, 4))
            note = self.note(chance, shape)
            one, other = Keeper(), Keeper()
            quick, slow = House(*made, one, note), SlowHouse(*made, other, note)
            rows = []
            for now in range(40):
                rows.append(self.row(chance, shape, now // 2))
                told = outcome(getattr(quick, rows[-1][0]), *rows[-1][1:])
                self.assertEqual(told, outcome(getattr(slow, rows[-1][0]), *rows[-1][1:]), (made, note, rows))
                self.assertEqual((quick.last(), quick.note()), (slow.last(), slow.note()), (made, note, rows))
                self.assertEqual(one.notes, other.notes)
