import random
import unittest

from houses import NO_LEASES, SMALL, Broken, HouseCase, Keeper, name, names
from kinds import FORTY, NO_NUMBERS, VAST
from namehouses.common import Common
from namehouses.errors import Empty, Fallen, HouseError, NoLease, NoNote, Wait
from namehouses.house import House
from namehouses.shapes import Shape

LEASE = (1, 10, 20)


class TestNote(HouseCase):
    def test_first_note(self):
        self.assertEqual(self.made().note(), (None, None))
        for note in [(None, None), (LEASE, None), (None, 7), (LEASE, 7), ((3, 99, 100), 99), ((0, 0, 1), 0)]:
            house = self.made(note=note)
            self.assertEqual(house.note(), note)
            self.assertIsInstance(house.note(), tuple)
            self.assertEqual(self.kept(), [])

    def test_taking_leases(self):
        house = self.made()
        house.take_lease(LEASE)
        self.assertEqual((self.kept(), house.note()), ([(LEASE, None)], (LEASE, None)))
        house.take_lease((1, 10, 21))
        self.assertEqual((self.kept(), house.note()), ([((1, 10, 21), None)], ((1, 10, 21), None)))
        house.ask(12)
        self.kept()
        house.take_lease((2, 50, 60))
        self.assertEqual((self.kept(), house.note()), ([((2, 50, 60), 12)], ((2, 50, 60), 12)))

    def test_taking_the_same_lease_again(self):
        house = self.made(LEASE)
        house.take_lease(LEASE)
        self.assertEqual((self.kept(), house.note()), ([], (LEASE, None)))
        house = self.made(note=(LEASE, 5))
        house.take_lease((1, 10, 20))
        self.assertEqual((self.kept(), house.note()), ([], (LEASE, 5)))

    def test_giving_back(self):
        house = self.made(LEASE)
        house.give_back()
        self.assertEqual((self.kept(), house.note()), ([(None, None)], (None, None)))
        house = self.made(LEASE, stride=3)
        house.ask(12)
        self.kept()
        house.give_back()
        self.assertEqual((self.kept(), house.note()), ([(None, 15)], (None, 15)))

    def test_refused_ones_keep_nothing(self):
        house = self.made(LEASE)
        for call, given in [
            (house.ask, (9,)), (house.ask, (20,)), (house.ask, (None,)), (house.ask, (10, 6)), (house.store, (9,)),
            (house.store, (20,)), (house.take, ()), (house.take, (0,)), (house.take_lease, (None,)),
        ]:
            with self.assertRaises(HouseError):
                call(*given)
            self.assertEqual((self.kept(), house.note()), ([], (LEASE, None)))
        house = self.made()
        self.assertRaises(NoLease, house.give_back)
        self.assertEqual((self.kept(), house.note()), ([], (None, None)))


class TestMark(HouseCase):
    def test_moment_and_stride(self):
        for stride, mark in [(0, 12), (1, 13), (5, 17), (50, 62), (87, 99), (88, 99), (FORTY, 99)]:
            for turn in ["ask", "store"]:
                house = self.made(LEASE, stride=stride)
                getattr(house, turn)(12, 2)
                self.assertEqual((self.kept(), house.note()), ([(LEASE, mark)], (LEASE, mark)))

    def test_only_above_the_mark(self):
        house = self.made((1, 10, 40), stride=3)
        marks = []
        for reading in [10, 10, 11, 12, 13, 14, 16, 17, 18, 25]:
            house.ask(reading)
            marks.append([note[1] for note in self.kept()])
        self.assertEqual(marks, [[13], [], [], [], [], [17], [], [], [21], [28]])
        self.assertEqual(house.note(), ((1, 10, 40), 28))

    def test_of_the_last_names_moment(self):
        house = self.made((1, 10, 40), ahead=1)
        house.ask(10, 3)
        self.assertEqual(self.kept(), [((1, 10, 40), 10)])
        house.ask(10, 2)
        self.assertEqual(self.kept(), [])
        house.ask(10, 5)
        self.assertEqual(self.kept(), [((1, 10, 40), 11)])

    def test_mark_of_nought(self):
        house = self.made((1, 0, 20))
        house.ask(0)
        self.assertEqual(self.kept(), [((1, 0, 20), 0)])
        house.ask(0)
        self.assertEqual(self.kept(), [])

    def test_of_a_house_made_of_a_note(self):
        house = self.made(note=((1, 10, 40), 12), stride=2)
        house.ask(13)
        self.assertEqual(self.kept(), [((1, 10, 40), 15)])
        house = self.made(note=((1, 10, 40), None), stride=2)
        house.ask(13)
        self.assertEqual(self.kept(), [((1, 10, 40), 15)])

    def test_not_by_taking_from_the_store(self):
        house = self.made((1, 10, 40))
        for moment in [10, 15, 20]:
            house.store(moment)
        self.assertEqual([note[1] for note in self.kept()], [10, 15, 20])
        house.take()
        house.take(2)
        self.assertEqual((self.kept(), house.note()), ([], ((1, 10, 40), 20)))

    def test_at_most_the_last_moment(self):
        house = self.made((1, 90, 100), stride=5)
        house.ask(93)
        house.ask(97)
        house.ask(99)
        self.assertEqual([note[1] for note in self.kept()], [98, 99])
        house = self.made((1, 90, 100), stride=5)
        house.ask(99)
        self.assertEqual([note[1] for note in self.kept()], [99])

    def test_forty_figures(self):
        shape = Shape(FORTY, FORTY, FORTY)
        lease = (FORTY - 1, 0, FORTY)
        house = self.made(lease, shape=shape, stride=FORTY // 2)
        house.ask(7)
        house.ask(FORTY // 2 + 7)
        house.ask(FORTY // 2 + 8)
        self.assertEqual(self.kept(), [(lease, FORTY // 2 + 7), (lease, FORTY - 1)])


class TestAheadOfAllElse(HouseCase):
    def test_the_keeper_is_called_first(self):
        seen = []
        house = House(SMALL, 0, 2, lambda note: seen.append((note, house.last())))
        house.take_lease(LEASE)
        house.ask(10)
        house.store(13, 2)
        house.take()
        house.ask(16)
        house.give_back()
        self.assertEqual(seen, [
            ((LEASE, None), None), ((LEASE, 12), None), ((LEASE, 15), name(10, 1, 0)),
            ((LEASE, 18), name(13, 1, 1)), ((None, 18), name(16, 1, 0))])


class TestFallen(HouseCase):
    def assert_fallen(self, house):
        self.keeper.raises = None
        self.keeper.notes.clear()
        for call, rows in [
            (house.take_lease, [(LEASE,), ((2, 5, 9),), (None,), ("a",)]),
            (house.ask, [(10,), (10, 2), (None,), (10, 0), (None, None), (99,)]),
            (house.store, [(10,), (10, 2), (None,), (10, 0), (None, None), (99,)]),
            (house.take, [(), (1,), (0,), (None,), (FORTY,)]),
            (house.give_back, [()]),
        ]:
            for given in rows:
                self.assertRaises(Fallen, call, *given)
        self.assertEqual(self.kept(), [])

    def assert_falls(self, house, call, *given):
        for error in [Broken("broken"), ValueError(), KeyError("a"), TypeError(), NoLease("own"), Wait(3), OSError()]:
            fresh = house()
            self.keeper.raises = error
            with self.assertRaises(type(error)) as taken:
                getattr(fresh, call)(*given)
            self.assertIs(taken.exception, error)
            self.assertEqual(len(self.kept()), 1)
            self.assert_fallen(fresh)

    def stored(self):
        house = self.made(LEASE)
        house.store(10, 3)
        self.kept()
        return house

    def test_by_taking_a_lease(self):
        self.assert_falls(self.made, "take_lease", LEASE)
        self.assert_falls(self.stored, "take_lease", (2, 10, 20))

    def test_by_asking(self):
        self.assert_falls(lambda: self.made(LEASE), "ask", 10)
        self.assert_falls(self.stored, "ask", 11, 5)

    def test_by_storing(self):
        self.assert_falls(lambda: self.made(LEASE), "store", 10, 2)
        self.assert_falls(self.stored, "store", 11)

    def test_by_giving_back(self):
        self.assert_falls(lambda: self.made(LEASE), "give_back")
        self.assert_falls(self.stored, "give_back")

    def test_not_where_the_keeper_is_not_called(self):
        house = self.made(LEASE, stride=5)
        house.ask(10)
        house.store(10, 2)
        self.keeper.raises = Broken()
        house.take_lease(LEASE)
        self.assertEqual(house.take(), [name(10, 1, 1)])
        self.assertEqual(house.ask(15), [name(15, 1, 0)])
        self.assertRaises(Wait, house.ask, 14)
        self.assertRaises(Broken, house.ask, 16)
        self.assert_fallen(house)

    def test_the_making_does_not_call_it(self):
        keeper = Keeper()
        keeper.raises = Broken()
        house = House(SMALL, 0, 0, keeper, (LEASE, 5))
        self.assertEqual(keeper.notes, [])
        self.assertRaises(Broken, house.ask, 10)

    def test_up_again_of_the_note(self):
        house = self.made(LEASE, stride=2)
        self.assertEqual(house.ask(10), [name(10, 1, 0)])
        self.keeper.raises = Broken()
        self.assertRaises(Broken, house.ask, 13)
        notes = self.kept()
        self.assertEqual(notes, [(LEASE, 12), (LEASE, 15)])
        for note, first in zip(notes, [13, 16]):
            again = self.made(note=note)
            self.assertEqual(again.ask(first), [name(first, 1, 0)])


class TestGiveBack(HouseCase):
    def test_without_a_lease(self):
        house = self.made()
        self.assert_refused(house, NoLease, house.give_back)
        house = self.made(note=(None, 5))
        self.assert_refused(house, NoLease, house.give_back)
        house = self.made(LEASE)
        house.give_back()
        self.assert_refused(house, NoLease, house.give_back)
        self.assert_refused(house, NoLease, house.ask, 10)

    def test_refused_leaves_the_store(self):
        house = self.made(LEASE)
        house.give_back()
        house.take_lease(LEASE)
        house.store(10, 2)
        self.assertEqual(house.give_back(), (LEASE, 10))
        self.assert_refused(house, NoLease, house.give_back)

    def test_nothing_given_and_no_mark(self):
        self.assertEqual(self.made(LEASE).give_back(), (LEASE, None))
        self.assertEqual(self.made(note=(LEASE, None)).give_back(), (LEASE, None))
        self.assertEqual(self.made(note=(None, None), lease=LEASE).give_back(), (LEASE, None))
        self.assertIsInstance(self.made(LEASE).give_back(), tuple)

    def test_the_last_given_names_moment(self):
        # By the last name itself, not by the mark, which lies farther on.
        for reading in [10, 11, 19]:
            house = self.made(LEASE, stride=4)
            house.ask(reading, 3)
            self.assertEqual(house.give_back(), (LEASE, reading))

    def test_the_last_stored_names_moment(self):
        house = self.made(LEASE, stride=4)
        house.ask(10)
        house.store(12)
        house.store(14, 2)
        house.take()
        self.assertEqual(house.give_back(), (LEASE, 14))
        house = self.made(LEASE)
        house.store(12)
        self.assertEqual(house.give_back(), (LEASE, 12))

    def test_by_whichever_lease(self):
        for moment, used in [(9, None), (10, 10), (15, 15), (19, 19), (20, 19), (40, 19)]:
            house = self.made((2, 5, 50))
            house.ask(moment)
            house.take_lease(LEASE)
            self.assertEqual(house.give_back(), (LEASE, used))

    def test_the_mark_of_the_note(self):
        for mark, used in [(0, None), (9, None), (10, 10), (15, 15), (19, 19), (20, 19), (99, 19)]:
            house = self.made(note=(LEASE, mark), stride=4)
            self.assertEqual(house.give_back(), (LEASE, used))
            house = self.made(note=(None, mark), lease=LEASE, stride=4)
            self.assertEqual(house.give_back(), (LEASE, used))

    def test_given_ones_ahead_of_the_mark_of_the_note(self):
        house = self.made(note=(LEASE, 12), stride=4)
        house.ask(14)
        self.assertEqual(house.give_back(), (LEASE, 14))
        house = self.made(note=(LEASE, 12), stride=4)
        house.store(15)
        self.assertEqual(house.give_back(), (LEASE, 15))

    def test_given_back_and_taken_anew(self):
        house = self.made(LEASE)
        house.ask(12)
        self.assertEqual(house.give_back(), (LEASE, 12))
        house.take_lease((1, 30, 40))
        self.assertEqual(house.give_back(), ((1, 30, 40), None))
        house.take_lease((0, 12, 13))
        self.assertEqual(house.give_back(), ((0, 12, 13), 12))
        house.take_lease((1, 12, 20))
        self.assertEqual(house.ask(12), [name(12, 1, 1)])


class TestMadeOfANote(HouseCase):
    def test_it_has_the_lease(self):
        house = self.made(note=(LEASE, None))
        self.assertEqual(house.ask(10), [name(10, 1, 0)])
        house = self.made(note=(None, 5))
        self.assert_refused(house, NoLease, house.ask, 10)

    def test_moments_up_to_the_mark_count_as_given(self):
        house = self.made(note=(LEASE, 12))
        self.assertEqual(self.assert_refused(house, Wait, house.ask, 10).by, 3)
        self.assertEqual(self.assert_refused(house, Wait, house.ask, 12).by, 1)
        self.assertEqual(house.ask(13), [name(13, 1, 0)])
        house = self.made(note=(LEASE, 12), ahead=3)
        self.assertEqual(house.ask(10, 2), names((13, 1, 0), (13, 1, 1)))

    def test_by_each_house(self):
        for number in range(4):
            house = self.made(note=(None, 12), lease=(number, 0, 50))
            self.assertEqual(self.assert_refused(house, Wait, house.ask, 12).by, 1)
            self.assertEqual(house.ask(13), [name(13, number, 0)])

    def test_nothing_left_of_the_lease(self):
        for mark in [19, 20, 99]:
            house = self.made(note=(LEASE, mark), ahead=50)
            self.assert_refused(house, NoLease, house.ask, 10)

    def test_a_mark_below_the_lease(self):
        house = self.made(note=(LEASE, 5))
        self.assertEqual(house.ask(10), [name(10, 1, 0)])

    def test_it_has_given_nothing_itself(self):
        self.assertIsNone(self.made(note=(LEASE, 12)).last())

    def test_no_store(self):
        house = self.made(LEASE)
        house.store(10, 5)
        house = self.made(note=house.note())
        self.assert_refused(house, Empty, house.take)
        self.assertEqual(house.ask(11), [name(11, 1, 0)])

    def test_no_note(self):
        keeper = Keeper()
        wrong_ones = [thing for thing in NO_NUMBERS if thing is not None] + [
            0, 5, VAST, (None,), (None, None, None), [None, None], [LEASE, 5], {LEASE: 5}, LEASE, (LEASE,),
            (5, LEASE), ((LEASE, 5),), (list(LEASE), 5), "note", ("a", "b"), (LEASE, LEASE), (LEASE, (5,)),
        ]
        for wrong in wrong_ones:
            with self.assertRaises(NoNote):
                House(SMALL, 0, 0, keeper, wrong)
        for wrong in [thing for thing in NO_LEASES if thing is not None]:
            for mark in [None, 5, True]:
                with self.assertRaises(NoNote):
                    House(SMALL, 0, 0, keeper, (wrong, mark))
        for wrong in [thing for thing in NO_NUMBERS if thing is not None] + [-1, 100, 101, FORTY, -FORTY, VAST, -VAST]:
            for lease in [None, LEASE]:
                with self.assertRaises(NoNote):
                    House(SMALL, 0, 0, keeper, (lease, wrong))
        self.assertEqual(keeper.notes, [])


class TestNothingIsGivenTwice(unittest.TestCase):
    """Houses of one common book that fall, by whatever clocks, and come up with their last note or bare."""

    def turn(self, chance, house, now):
        reading = now + chance.choice([0, 0, 1, 4, -1, -5])
        many = chance.randint(1, min(house.shape.counts, 3))
        call = chance.choice([
            lambda: house.ask(reading, many), lambda: house.ask(reading), lambda: house.store(reading, many),
            lambda: house.take(many)])
        try:
            told = call()
        except (Wait, NoLease, Empty, Broken, Fallen):
            return []
        return told if isinstance(told, list) else []

    def lease_for(self, chance, book, holder, house, now):
        try:
            if house.note()[0] is not None and chance.random() < 0.5:
                book.cut(*house.give_back())
            house.take_lease(book.let(holder, chance.choice([None, 0, 1]), now, chance.randint(1, 12)))
        except (HouseError, Broken):
            pass

    def played(self, chance, shape):
        book = Common(shape)
        holders = ["anna", "bert", "carl"]
        keepers = {holder: Keeper() for holder in holders}
        made = (chance.randint(0, 3), chance.randint(0, 4))
        houses = {holder: House(shape, *made, keepers[holder]) for holder in holders}
        given = []
        for row in range(150):
            holder = chance.choice(holders)
            keeper = keepers[holder]
            keeper.raises = Broken() if chance.random() < 0.03 else None
            if chance.random() < 0.06:
                note = keeper.notes[-1][0] if keeper.notes else None
                houses[holder] = House(shape, *made, keeper, note)
            elif chance.random() < 0.03:
                keeper.notes.clear()
                houses[holder] = House(shape, *made, keeper)
            elif chance.random() < 0.2:
                self.lease_for(chance, book, holder, houses[holder], row // 3)
            else:
                told = self.turn(chance, houses[holder], row // 3)
                for each in told:
                    self.assertEqual(book.holder_of(each), holder)
                given.extend((holder, each) for each in told)
        for holder, each in given:
            self.assertEqual(book.holder_of(each), holder)
        return [each for holder, each in given]

    def test_many_runs(self):
        chance = random.Random(27)
        many = 0
        for turn in range(300):
            given = self.played(chance, Shape(chance.choice([40, 60]), chance.randint(2, 4), chance.randint(1, 4)))
            self.assertEqual(len(set(given)), len(given))
            many += len(given)
        self.assertGreater(many, 3000)
