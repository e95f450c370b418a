from houses import HouseCase, in_store, name, names
from kinds import FORTY, NO_NUMBERS, VAST
from namehouses.errors import Empty, NoLease, NoTime, TooMany, Wait
from namehouses.shapes import Shape, name_of


class TestStore(HouseCase):
    def test_how_many_are_in_store(self):
        house = self.made((1, 10, 20))
        self.assertEqual(house.store(10), 1)
        self.assertEqual(house.store(10, 4), 5)
        self.assertEqual(house.store(12, 5), 10)
        self.assertEqual(in_store(house), names(
            *[(10, 1, count) for count in range(5)], *[(12, 1, count) for count in range(5)]))

    def test_those_that_asking_would_give(self):
        readings = [(10, 3), (10, 2), (13, 1), (12, 5), (30, 4)]
        asked, stored = self.made((1, 10, 40), ahead=2), self.made((1, 10, 40), ahead=2)
        given = [name for row in readings for name in asked.ask(*row)]
        self.assertEqual([stored.store(*row) for row in readings], [3, 5, 6, 11, 15])
        self.assertEqual(stored.last(), given[-1])
        self.assertEqual(stored.take(15), given)

    def test_last_is_told_of_the_store(self):
        house = self.made((1, 10, 20))
        house.store(10, 3)
        self.assertEqual(house.last(), name(10, 1, 2))
        house.take()
        self.assertEqual(house.last(), name(10, 1, 2))
        house.take(2)
        self.assertEqual(house.last(), name(10, 1, 2))

    def test_asked_names_are_above_the_stored_ones(self):
        house = self.made((1, 10, 20))
        house.store(12, 3)
        self.assertEqual(self.assert_refused(house, Wait, house.ask, 11).by, 1)
        self.assertEqual(house.ask(12), [name(12, 1, 3)])

    def test_refused_as_asking_is(self):
        house = self.made((1, 10, 20), ahead=2)
        house.store(15, 5)
        self.assertEqual(self.assert_refused(house, Wait, house.store, 12, 3).by, 2)
        self.assert_refused(house, NoLease, house.store, 20)
        self.assert_refused(house, NoTime, house.store, None)
        self.assert_refused(house, TooMany, house.store, None, 6)
        self.assertEqual(in_store(house), names(*[(15, 1, count) for count in range(5)]))

    def test_the_store_stays_over_leases(self):
        house = self.made((1, 10, 20))
        house.store(10, 2)
        house.take_lease((0, 5, 30))
        self.assertEqual(house.store(11, 2), 4)
        house.take_lease((3, 50, 60))
        self.assertEqual(in_store(house), names((10, 1, 0), (10, 1, 1), (11, 0, 0), (11, 0, 1)))

    def test_far_more_than_are_told_at_once(self):
        shape = Shape(FORTY, 3, FORTY)
        house = self.made((1, 0, FORTY), ahead=1, shape=shape)
        self.assertEqual(house.store(5, FORTY // 2), FORTY // 2)
        self.assertEqual(house.store(5, FORTY), FORTY // 2 + FORTY)
        self.assertEqual(house.take(2), [name_of(shape, 5, 1, 0), name_of(shape, 5, 1, 1)])
        self.assertEqual(house.last(), name_of(shape, 6, 1, FORTY // 2 - 1))
        self.assert_refused(house, Empty, house.take, FORTY // 2 + FORTY - 1)


class TestTake(HouseCase):
    def test_the_first_ones_in_order(self):
        house = self.made((1, 10, 20))
        house.store(10, 3)
        house.store(15, 5)
        self.assertEqual(house.take(), [name(10, 1, 0)])
        self.assertEqual(house.take(1), [name(10, 1, 1)])
        self.assertEqual(house.take(4), names((10, 1, 2), (15, 1, 0), (15, 1, 1), (15, 1, 2)))
        self.assertEqual(house.store(16, 2), 4)
        self.assertEqual(house.take(4), names((15, 1, 3), (15, 1, 4), (16, 1, 0), (16, 1, 1)))
        self.assert_refused(house, Empty, house.take)

    def test_more_than_counts(self):
        house = self.made((1, 10, 20))
        for moment in range(10, 15):
            house.store(moment, 5)
        self.assertEqual(house.take(25), names(*[(moment, 1, count) for moment in range(10, 15) for count in range(5)]))

    def test_empty(self):
        house = self.made((1, 10, 20))
        for many in [1, 2, FORTY]:
            self.assert_refused(house, Empty, house.take, many)
        house.store(10, 3)
        for many in [4, 5, FORTY]:
            self.assert_refused(house, Empty, house.take, many)
        self.assertEqual(house.take(3), names((10, 1, 0), (10, 1, 1), (10, 1, 2)))
        self.assert_refused(house, Empty, house.take)

    def test_too_many_ahead_of_empty(self):
        house = self.made((1, 10, 20))
        for wrong in NO_NUMBERS + [0, -1, -FORTY, -VAST]:
            self.assert_refused(house, TooMany, house.take, wrong)
        house.store(10, 3)
        for wrong in NO_NUMBERS + [0, -1, -FORTY, -VAST]:
            self.assert_refused(house, TooMany, house.take, wrong)
        self.assertEqual(in_store(house), names((10, 1, 0), (10, 1, 1), (10, 1, 2)))

    def test_without_a_lease(self):
        house = self.made()
        self.assert_refused(house, Empty, house.take)

    def test_a_told_list_is_the_askers_own(self):
        house = self.made((1, 10, 20))
        house.store(10, 4)
        told = house.take(2)
        self.assertIsInstance(told, list)
        told.clear()
        self.assertEqual(house.take(2), names((10, 1, 2), (10, 1, 3)))

    def test_houses_are_apart(self):
        one, other = self.made((1, 10, 20)), self.made((1, 10, 20))
        one.store(10, 4)
        self.assertRaises(Empty, other.take)


class TestLettingGo(HouseCase):
    def test_asking_lets_go_what_is_in_store(self):
        house = self.made((1, 10, 20))
        house.store(10, 3)
        house.take()
        self.assertEqual(house.ask(10), [name(10, 1, 3)])
        self.assert_refused(house, Empty, house.take)
        self.assertEqual(house.store(10), 1)
        self.assertEqual(house.take(), [name(10, 1, 4)])

    def test_refused_asking_does_not(self):
        house = self.made((1, 10, 20), ahead=2)
        house.store(15, 3)
        for given in [(12, 3), (20,), (None,), (15, 6), (15, 0), ("a", "b")]:
            with self.assertRaises((Wait, NoLease, NoTime, TooMany)):
                house.ask(*given)
        self.assertEqual(house.take(3), names((15, 1, 0), (15, 1, 1), (15, 1, 2)))

    def test_giving_back_lets_go_what_is_in_store(self):
        house = self.made((1, 10, 20))
        house.store(10, 3)
        house.give_back()
        self.assert_refused(house, Empty, house.take)
        house.take_lease((1, 10, 20))
        self.assert_refused(house, Empty, house.take)
        self.assertEqual(house.ask(10), [name(10, 1, 3)])

    def test_what_is_given_rises(self):
        house = self.made((1, 10, 90), ahead=3)
        given = []
        for reading in range(10, 60):
            house.store(reading, 1 + reading % 3)
            if reading % 4 == 0:
                given.extend(house.ask(reading - reading % 3))
            elif reading % 4 == 2:
                given.extend(house.take(2))
        self.assertEqual(given, sorted(set(given)))
        self.assertGreater(len(given), 30)
