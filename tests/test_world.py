import unittest

from houses import SMALL, name, names
from kinds import FORTY, NO_HOLDERS, NO_NUMBERS, NUMBERS, OTHERS, TEXTS, VAST
from namehouses.clocks import Clock
from namehouses.errors import (
    Backward, Empty, Ended, NoClock, NoHolder, NoLease, NoName, NoRow, NoTime, TooMany, Wait,
)
from namehouses.shapes import Shape
from namehouses.world import World
from worlds import HOLDERS, NO_ROWS, ROWS, WorldCase, now_of, seen

RUNS = Clock(0, [])
NO_AHEADS = NO_NUMBERS + [-1, -FORTY, -VAST]


def is_key(thing):
    try:
        return {thing: 1} == {thing: 1}
    except TypeError:
        return False


def made(ahead=0, stride=0, shape=SMALL, **clocks):
    return World(shape, ahead, stride, clocks or {"anna": RUNS, "bert": RUNS})


class TestMaking(unittest.TestCase):
    def assert_no_holder(self, clocks):
        for ahead, stride in [(0, 0), (-1, 0), (0, -1), (None, "a"), (True, [])]:
            with self.assertRaises(NoHolder):
                World(SMALL, ahead, stride, clocks)

    def test_no_dict(self):
        for wrong in OTHERS + TEXTS + NUMBERS + [
            RUNS, [RUNS], ["anna"], [("anna", RUNS)], (("anna", RUNS),), ("anna", RUNS), "anna", {"anna"}, World,
        ]:
            self.assert_no_holder(wrong)

    def test_no_holder_at_all(self):
        self.assert_no_holder({})

    def test_keys_that_are_no_holders(self):
        wrong_ones = [thing for thing in NO_HOLDERS if is_key(thing)]
        self.assertGreater(len(wrong_ones), 30)
        for wrong in wrong_ones:
            self.assert_no_holder({wrong: RUNS})
            self.assert_no_holder({wrong: RUNS, "anna": RUNS})
            self.assert_no_holder({"anna": RUNS, "bert": RUNS, wrong: RUNS})

    def test_values_that_are_no_clocks(self):
        for wrong in OTHERS + TEXTS + NUMBERS + [Clock, (0, []), [0, []], "0, 10 4 runs", {"anna": RUNS}, [RUNS], SMALL]:
            self.assert_no_holder({"anna": wrong})
            self.assert_no_holder({"bert": wrong, "anna": RUNS})
            self.assert_no_holder({"anna": RUNS, "bert": RUNS, "carl": wrong})

    def test_ahead_and_stride(self):
        for wrong in NO_AHEADS:
            for ahead, stride in [(wrong, 0), (0, wrong), (wrong, wrong), (7, wrong), (wrong, FORTY)]:
                for clocks in [{"anna": RUNS}, {holder: RUNS for holder in HOLDERS}]:
                    with self.assertRaises(NoTime):
                        World(SMALL, ahead, stride, clocks)

    def test_at_first(self):
        for ahead, stride in [(0, 0), (1, 0), (0, 1), (FORTY, FORTY)]:
            world = World(SMALL, ahead, stride, {"anna": RUNS})
            self.assertEqual(seen(world), ([], [], None))

    def test_each_holder_has_a_house(self):
        for many in range(1, 9):
            world = World(Shape(100, 8, 1), 0, 0, {holder: Clock(place, []) for place, holder in enumerate(HOLDERS[:many])})
            for place, holder in enumerate(HOLDERS[:many]):
                self.assertEqual(world.put(("lease", 5, holder, place, 10)), [])
                self.assertEqual(world.put(("ask", 5, holder, 1)), [(5 + place) * 8 + place])

    def test_a_dict_changed_behind_changes_nothing(self):
        clocks = {"anna": RUNS, "bert": Clock(5, [])}
        world = World(SMALL, 0, 0, clocks)
        clocks["anna"] = Clock(50, [])
        clocks["carl"] = RUNS
        clocks.pop("bert")
        world.put(("lease", 10, "anna", 1, 10))
        self.assertEqual(world.put(("ask", 10, "anna", 1)), names((10, 1, 0)))
        world.put(("lease", 10, "bert", 2, 10))
        self.assertEqual(world.put(("ask", 10, "bert", 1)), names((15, 2, 0)))
        with self.assertRaises(NoHolder):
            world.put(("fall", 10, "carl"))
        clocks.clear()
        self.assertEqual(world.put(("ask", 11, "anna", 1)), names((11, 1, 0)))
        world.put(("fall", 12, "bert"))
        self.assertEqual(world.put(("ask", 12, "bert", 1)), names((17, 2, 0)))

    def test_what_is_handed_in_stays(self):
        turns = [(10, 4, True), (20, 4, False)]
        clock = Clock(3, turns)
        clocks = {"anna": clock}
        world = World(SMALL, 1, 1, clocks)
        for row in [("lease", 4, "anna", None, 50), ("ask", 12, "anna", 2), ("back", 25, "anna"), ("bare", 26, "anna")]:
            world.put(row)
        self.assertEqual(clocks, {"anna": clock})
        self.assertEqual((clock.start, clock.turns, turns), (3, [(10, 4, True), (20, 4, False)], turns))

    def test_turns_changed_behind_change_nothing(self):
        turns = [(10, 4, True)]
        world = made(anna=Clock(0, turns))
        turns[0] = (10, 50, False)
        world.put(("lease", 10, "anna", 0, 10))
        self.assertEqual(world.leases(), [("anna", 0, 4, 14)])
        self.assertRaises(NoClock, Clock, 0, None)


class TestLease(WorldCase):
    def test_from_the_reading_on(self):
        world = made(anna=RUNS, bert=Clock(30, []))
        self.assertEqual(world.put(("lease", 5, "anna", 2, 10)), [])
        self.assertEqual(world.put(("lease", 6, "bert", 2, 10)), [])
        self.assertEqual(world.put(("lease", 6, "bert", None, 4)), [])
        self.assertEqual(world.put(("lease", 7, "anna", 2, 10)), [])
        self.assertEqual(world.leases(), [("anna", 2, 5, 15), ("bert", 2, 36, 46), ("bert", 0, 36, 40), ("anna", 2, 15, 25)])
        self.assertEqual(world.book(), [])

    def test_a_reading_below_nought_counts_as_nought(self):
        world = made(anna=Clock(-50, []))
        world.put(("lease", 5, "anna", 1, 10))
        world.put(("lease", 5, "anna", None, 10))
        world.put(("lease", 5, "anna", 1, 10))
        self.assertEqual(world.leases(), [("anna", 1, 0, 10), ("anna", 0, 0, 10), ("anna", 1, 10, 20)])
        self.assertEqual(self.assert_refused(world, Wait, ("ask", 5, "anna", 1)).by, 55)

    def test_the_house_takes_it(self):
        world = made()
        world.put(("lease", 5, "anna", 2, 10))
        self.assertEqual(world.put(("ask", 6, "anna", 1)), names((6, 2, 0)))
        world.put(("lease", 7, "anna", 1, 10))
        # The least name of house 1 that isn't below the reading: that of house 2 is no more its own.
        self.assertEqual(world.put(("ask", 7, "anna", 2)), names((7, 1, 0), (7, 1, 1)))
        self.assert_refused(world, NoLease, ("ask", 7, "bert", 1))

    def test_refused_as_the_book_refuses(self):
        world = made()
        world.put(("lease", 5, "anna", 2, 10))
        for wrong in [thing for thing in NO_NUMBERS if thing is not None] + [-1, 4, 5, FORTY, VAST]:
            for span in [1, 0, None, FORTY]:
                self.assert_refused(world, NoName, ("lease", 6, "anna", wrong, span))
        for wrong in NO_NUMBERS + [0, -1, -FORTY]:
            for house in [0, 2, None]:
                self.assert_refused(world, NoTime, ("lease", 6, "anna", house, wrong))
                self.assert_refused(world, NoTime, ("lease", 500, "anna", house, wrong))
        for house in [0, 2, None]:
            self.assert_refused(world, Ended, ("lease", 6, "anna", house, 95))
            self.assert_refused(world, Ended, ("lease", 100, "anna", house, 1))
            self.assert_refused(world, Ended, ("lease", FORTY, "anna", house, 1))
        self.assertEqual(world.put(("ask", 5, "anna", 1)), names((5, 2, 0)))

    def test_ended_where_no_house_is_free(self):
        world = made()
        for house in range(4):
            world.put(("lease", 5, "bert", None, 10))
        self.assert_refused(world, Ended, ("lease", 6, "anna", None, 1))
        world.put(("lease", 6, "anna", 3, 1))
        self.assertEqual(world.leases()[-1], ("anna", 3, 15, 16))


class TestAsk(WorldCase):
    def test_a_clock_that_runs(self):
        world = made(anna=Clock(3, []))
        world.put(("lease", 5, "anna", 1, 50))
        self.assertEqual(world.put(("ask", 5, "anna", 2)), names((8, 1, 0), (8, 1, 1)))
        self.assertEqual(world.put(("ask", 5, "anna", 3)), names((8, 1, 2), (8, 1, 3), (8, 1, 4)))
        self.assertEqual(self.assert_refused(world, Wait, ("ask", 5, "anna", 1)).by, 1)
        self.assertEqual(world.put(("ask", 9, "anna", 1)), names((12, 1, 0)))

    def test_a_clock_that_stands(self):
        world = made(anna=Clock(0, [(10, 12, False)]))
        world.put(("lease", 9, "anna", 1, 50))
        told = self.put_all(world, [("ask", time, "anna", 1) for time in [9, 10, 11, 15, 40, 77]])
        self.assertEqual(told, [names((9, 1, 0))] + [names((12, 1, count)) for count in range(5)])
        for time in [77, 78, 1000]:
            self.assertEqual(self.assert_refused(world, Wait, ("ask", time, "anna", 1)).by, 1)

    def test_a_clock_that_jumps_on(self):
        world = made(anna=Clock(0, [(10, 60, True)]))
        world.put(("lease", 9, "anna", 1, 90))
        told = self.put_all(world, [("ask", time, "anna", 1) for time in [9, 10, 10, 11, 40]])
        self.assertEqual(told, [names(each) for each in [(9, 1, 0), (60, 1, 0), (60, 1, 1), (61, 1, 0), (90, 1, 0)]])
        self.assert_refused(world, NoLease, ("ask", 49, "anna", 1))

    def test_a_clock_that_steps_back(self):
        for ahead, by in [(0, 5), (1, 4), (4, 1)]:
            world = made(ahead, anna=Clock(0, [(10, 5, True)]))
            world.put(("lease", 9, "anna", 1, 50))
            world.put(("ask", 9, "anna", 5))
            self.assertEqual(self.assert_refused(world, Wait, ("ask", 10, "anna", 1)).by, by)
            self.assert_refused(world, Wait, ("ask", 9 + by, "anna", 1))
            self.assertEqual(world.put(("ask", 10 + by, "anna", 1)), names((10, 1, 0)))
        world = made(5, anna=Clock(0, [(10, 5, True)]))
        world.put(("lease", 9, "anna", 1, 50))
        world.put(("ask", 9, "anna", 5))
        self.assertEqual(world.put(("ask", 10, "anna", 2)), names((10, 1, 0), (10, 1, 1)))

    def test_refused_as_the_house_refuses(self):
        for word in ["ask", "store"]:
            world = made()
            for wrong in NO_NUMBERS + [0, -1, 6, FORTY, VAST]:
                # Ahead of NoLease: there is no lease yet.
                self.assert_refused(world, TooMany, (word, 5, "anna", wrong))
            self.assert_refused(world, NoLease, (word, 5, "anna", 1))
            world.put(("lease", 5, "anna", 1, 2))
            self.assert_refused(world, NoLease, (word, 7, "anna", 1))
            self.assert_refused(world, TooMany, (word, 7, "anna", 6))
            world.put((word, 5, "anna", 3))
            self.assertEqual(self.assert_refused(world, Wait, (word, 5, "anna", 3)).by, 1)
            world.put((word, 6, "anna", 5))
            # The lease has nothing left, and this is told ahead of Wait.
            self.assert_refused(world, NoLease, (word, 6, "anna", 1))


class TestStoreAndTake(WorldCase):
    def test_stored_and_taken(self):
        world = made()
        world.put(("lease", 5, "anna", 1, 50))
        self.assertEqual(world.put(("store", 5, "anna", 2)), [])
        self.assertEqual(world.put(("store", 7, "anna", 1)), [])
        self.assertEqual(world.book(), [])
        self.assertEqual(world.put(("take", 30, "anna", 1)), names((5, 1, 0)))
        self.assertEqual(world.put(("take", 31, "anna", 2)), names((5, 1, 1), (7, 1, 0)))
        self.assert_refused(world, Empty, ("take", 31, "anna", 1))
        self.assertEqual(world.book(), [(30, "anna", name(5, 1, 0)), (31, "anna", name(5, 1, 1)), (31, "anna", name(7, 1, 0))])

    def test_asking_lets_go_what_is_in_store(self):
        world = made()
        world.put(("lease", 5, "anna", 1, 50))
        world.put(("store", 5, "anna", 3))
        self.assertEqual(world.put(("ask", 5, "anna", 1)), names((5, 1, 3)))
        self.assert_refused(world, Empty, ("take", 5, "anna", 1))

    def test_the_store_stays_by_another_lease(self):
        world = made()
        world.put(("lease", 5, "anna", 1, 50))
        world.put(("store", 5, "anna", 3))
        world.put(("lease", 6, "anna", 2, 50))
        self.assertEqual(world.put(("take", 6, "anna", 2)), names((5, 1, 0), (5, 1, 1)))

    def test_each_has_its_own_store(self):
        world = made()
        world.put(("lease", 5, "anna", 1, 50))
        world.put(("store", 5, "anna", 3))
        self.assert_refused(world, Empty, ("take", 5, "bert", 1))

    def test_refused_as_the_house_refuses(self):
        world = made()
        for wrong in NO_NUMBERS + [0, -1, -FORTY]:
            self.assert_refused(world, TooMany, ("take", 5, "anna", wrong))
        for many in [1, 6, FORTY]:
            self.assert_refused(world, Empty, ("take", 5, "anna", many))
        world.put(("lease", 5, "anna", 1, 50))
        world.put(("store", 5, "anna", 3))
        self.assert_refused(world, Empty, ("take", 5, "anna", 4))
        self.assertEqual(world.put(("take", 5, "anna", 3)), names((5, 1, 0), (5, 1, 1), (5, 1, 2)))


class TestBack(WorldCase):
    def test_cut_to_what_was_used(self):
        world = made(stride=20)
        world.put(("lease", 5, "anna", 1, 50))
        world.put(("ask", 8, "anna", 1))
        self.assertEqual(world.put(("back", 9, "anna")), [])
        self.assertEqual(world.leases(), [("anna", 1, 5, 9)])
        self.assert_refused(world, NoLease, ("ask", 9, "anna", 1))
        self.assert_refused(world, NoLease, ("back", 9, "anna"))
        world.put(("lease", 9, "bert", 1, 10))
        self.assertEqual(world.leases(), [("anna", 1, 5, 9), ("bert", 1, 9, 19)])
        self.assertEqual(world.holder_of(name(8, 1, 4)), "anna")
        self.assertEqual(world.holder_of(name(9, 1, 0)), "bert")

    def test_cut_to_nothing(self):
        world = made()
        world.put(("lease", 5, "anna", 1, 50))
        world.put(("back", 9, "anna"))
        self.assertEqual(world.leases(), [("anna", 1, 5, 5)])
        self.assertIsNone(world.holder_of(name(5, 1, 0)))
        world.put(("lease", 9, "bert", None, 50))
        self.assertEqual(world.leases(), [("anna", 1, 5, 5), ("bert", 0, 9, 59)])

    def test_what_was_stored_counts_as_used_and_is_let_go(self):
        world = made()
        world.put(("lease", 5, "anna", 1, 50))
        world.put(("store", 8, "anna", 1))
        world.put(("back", 9, "anna"))
        self.assertEqual(world.leases(), [("anna", 1, 5, 9)])
        self.assert_refused(world, Empty, ("take", 9, "anna", 1))

    def test_behind_a_fall_up_to_the_mark(self):
        for stride, until in [(0, 9), (3, 12), (46, 55), (90, 55)]:
            world = made(stride=stride)
            world.put(("lease", 5, "anna", 1, 50))
            world.put(("ask", 8, "anna", 1))
            world.put(("fall", 8, "anna"))
            world.put(("back", 8, "anna"))
            self.assertEqual(world.leases(), [("anna", 1, 5, until)])

    def test_without_a_lease(self):
        world = made()
        self.assert_refused(world, NoLease, ("back", 5, "anna"))
        world.put(("lease", 5, "anna", 1, 50))
        self.assert_refused(world, NoLease, ("back", 5, "bert"))
        world.put(("bare", 5, "anna"))
        self.assert_refused(world, NoLease, ("back", 5, "anna"))
        self.assertEqual(world.leases(), [("anna", 1, 5, 55)])


class TestFallAndBare(WorldCase):
    def test_fall_with_the_kept_note(self):
        world = made(stride=3)
        world.put(("lease", 5, "anna", 1, 50))
        self.assertEqual(world.put(("ask", 8, "anna", 2)), names((8, 1, 0), (8, 1, 1)))
        self.assertEqual(world.put(("fall", 9, "anna")), [])
        self.assertEqual(self.assert_refused(world, Wait, ("ask", 9, "anna", 1)).by, 3)
        self.assertEqual(world.put(("ask", 12, "anna", 1)), names((12, 1, 0)))
        self.assertEqual(world.leases(), [("anna", 1, 5, 55)])

    def test_fall_loses_the_store(self):
        world = made()
        world.put(("lease", 5, "anna", 1, 50))
        world.put(("store", 5, "anna", 3))
        world.put(("fall", 5, "anna"))
        self.assert_refused(world, Empty, ("take", 5, "anna", 1))
        self.assert_refused(world, Wait, ("ask", 5, "anna", 1))
        self.assertEqual(world.put(("ask", 6, "anna", 1)), names((6, 1, 0)))

    def test_fall_ahead_of_all_names(self):
        world = made()
        world.put(("lease", 5, "anna", 1, 50))
        world.put(("fall", 5, "anna"))
        self.assertEqual(world.put(("ask", 5, "anna", 1)), names((5, 1, 0)))

    def test_fall_of_a_house_whose_keeper_was_not_called_yet(self):
        world = made()
        self.assertEqual(world.put(("fall", 5, "anna")), [])
        self.assert_refused(world, NoLease, ("ask", 5, "anna", 1))
        world.put(("lease", 5, "anna", 1, 50))
        self.assertEqual(world.put(("ask", 5, "anna", 1)), names((5, 1, 0)))

    def test_fall_again_and_again(self):
        world = made(stride=2)
        world.put(("lease", 5, "anna", 1, 50))
        world.put(("ask", 5, "anna", 1))
        for turn in range(3):
            world.put(("fall", 6, "anna"))
        self.assertEqual(self.assert_refused(world, Wait, ("ask", 7, "anna", 1)).by, 1)
        self.assertEqual(world.put(("ask", 8, "anna", 1)), names((8, 1, 0)))
        world.put(("fall", 9, "anna"))
        self.assertEqual(world.put(("ask", 11, "anna", 1)), names((11, 1, 0)))

    def test_fall_behind_giving_back(self):
        world = made()
        world.put(("lease", 5, "anna", 1, 50))
        world.put(("ask", 8, "anna", 1))
        world.put(("back", 8, "anna"))
        world.put(("fall", 8, "anna"))
        self.assert_refused(world, NoLease, ("ask", 9, "anna", 1))
        world.put(("lease", 8, "anna", 2, 50))
        # The mark is still in the note.
        self.assertEqual(self.assert_refused(world, Wait, ("ask", 8, "anna", 1)).by, 1)
        self.assertEqual(world.put(("ask", 9, "anna", 1)), names((9, 2, 0)))

    def test_fall_with_the_newer_lease(self):
        world = made()
        world.put(("lease", 5, "anna", 1, 50))
        world.put(("ask", 5, "anna", 1))
        world.put(("lease", 6, "anna", 3, 50))
        world.put(("fall", 6, "anna"))
        self.assertEqual(world.put(("ask", 6, "anna", 1)), names((6, 3, 0)))

    def test_bare(self):
        world = made(anna=Clock(0, [(10, 6, True)]), stride=30)
        world.put(("lease", 5, "anna", 1, 50))
        world.put(("ask", 9, "anna", 1))
        self.assertEqual(world.put(("bare", 9, "anna")), [])
        self.assert_refused(world, NoLease, ("ask", 9, "anna", 1))
        world.put(("lease", 10, "anna", 2, 50))
        # Of the mark nothing is known any more, nor of the last name.
        self.assertEqual(world.put(("ask", 10, "anna", 1)), names((6, 2, 0)))
        self.assertEqual(world.leases(), [("anna", 1, 5, 55), ("anna", 2, 6, 56)])

    def test_bare_loses_the_store(self):
        world = made()
        world.put(("lease", 5, "anna", 1, 50))
        world.put(("store", 5, "anna", 3))
        world.put(("bare", 5, "anna"))
        self.assert_refused(world, Empty, ("take", 5, "anna", 1))

    def test_the_note_is_forgotten_by_a_fall_behind_it_too(self):
        world = made(stride=30)
        world.put(("lease", 5, "anna", 1, 50))
        world.put(("ask", 5, "anna", 1))
        world.put(("bare", 5, "anna"))
        world.put(("fall", 5, "anna"))
        self.assert_refused(world, NoLease, ("ask", 6, "anna", 1))
        world.put(("lease", 6, "anna", 2, 50))
        world.put(("fall", 6, "anna"))
        self.assertEqual(world.put(("ask", 6, "anna", 1)), names((6, 2, 0)))

    def test_others_stay_as_they_are(self):
        for word in ["fall", "bare"]:
            world = made()
            world.put(("lease", 5, "bert", 1, 50))
            world.put(("store", 5, "bert", 3))
            world.put((word, 5, "anna"))
            self.assertEqual(world.put(("take", 5, "bert", 1)), names((5, 1, 0)))
            self.assertEqual(world.put(("ask", 5, "bert", 1)), names((5, 1, 3)))

    def test_by_an_ahead_and_a_stride_as_ahead(self):
        for word in ["fall", "bare"]:
            world = made(2, 4)
            world.put(("fall", 5, "anna"))
            world.put((word, 5, "anna"))
            world.put(("lease", 5, "anna", 1, 50))
            for many in [5, 5, 5]:
                world.put(("ask", 5, "anna", many))
            self.assertEqual(self.assert_refused(world, Wait, ("ask", 5, "anna", 1)).by, 1)
            world.put(("fall", 5, "anna"))
            # The mark is that of the first ask, 5 and 4.
            self.assertEqual(self.assert_refused(world, Wait, ("ask", 5, "anna", 1)).by, 3)


class TestRefusedRows(WorldCase):
    def busy(self):
        world = made()
        world.put(("lease", 10, "anna", 1, 50))
        world.put(("store", 10, "anna", 3))
        return world

    def test_right_rows(self):
        for row in ROWS:
            self.assertIsInstance(self.busy().put(row), list, row)

    def test_no_rows(self):
        world = self.busy()
        fresh = made()
        for wrong in NO_ROWS:
            self.assert_refused(world, NoRow, wrong)
            self.assert_refused(fresh, NoRow, wrong)
        self.assertEqual(world.put(("take", 10, "anna", 3)), names((10, 1, 0), (10, 1, 1), (10, 1, 2)))

    def test_backward(self):
        world = self.busy()
        for row in ROWS:
            for time in [9, 0, -1, -FORTY]:
                self.assertEqual(self.assert_refused(world, Backward, (row[0], time) + row[2:]).now, 10)
        world.put(("fall", 12, "bert"))
        self.assertEqual(self.assert_refused(world, Backward, ("take", 11, "anna", 1)).now, 12)
        self.assertEqual(world.put(("take", 12, "anna", 1)), names((10, 1, 0)))

    def test_any_time_is_first(self):
        for time in [-FORTY, -1, 0, 5, FORTY]:
            world = made()
            self.assertIsNone(now_of(world))
            world.put(("fall", time, "anna"))
            self.assertEqual(now_of(world), time)
            self.assertEqual(self.assert_refused(world, Backward, ("fall", time - 1, "anna")).now, time)
            world.put(("fall", time, "anna"))

    def test_each_kind_of_row_sets_the_time(self):
        for row in ROWS:
            world = self.busy()
            world.put(row)
            self.assertEqual(now_of(world), 20)

    def test_no_holder_of_the_world(self):
        world = self.busy()
        for wrong in NO_HOLDERS + ["carl", "ann", "annaa", "berta", "a"]:
            for row in ROWS:
                self.assert_refused(world, NoHolder, row[:2] + (wrong,) + row[3:])

    def test_no_row_ahead_of_backward_and_no_holder(self):
        world = self.busy()
        for wrong in [
            ("ask", 5, "anna"), ("ask", 5, "zeno"), ("back", 5, [], 1), ("bare", 5), ("give", 5, "anna", 1),
            ["ask", 5, "anna", 1], ("ask", True, "zeno", 1), ("lease", 5, None, None),
        ]:
            self.assert_refused(world, NoRow, wrong)

    def test_backward_ahead_of_no_holder(self):
        world = self.busy()
        for wrong in NO_HOLDERS + ["zeno"]:
            for row in ROWS:
                self.assertEqual(self.assert_refused(world, Backward, (row[0], 9, wrong) + row[3:]).now, 10)

    def test_backward_and_no_holder_ahead_of_what_the_house_refuses(self):
        world = self.busy()
        for row in [
            ("ask", 9, "anna", 0), ("store", 9, "anna", None), ("take", 9, "anna", 99), ("back", 9, "bert"),
            ("lease", 9, "anna", 99, 1), ("lease", 9, "anna", 1, 0), ("lease", 9, "anna", 1, 1000),
        ]:
            self.assert_refused(world, Backward, row)
            self.assert_refused(world, NoHolder, (row[0], 11, "zeno") + row[3:])

    def test_a_refused_rows_time_is_not_the_worlds(self):
        world = self.busy()
        for refusal, row in [
            (NoHolder, ("fall", 30, "zeno")), (NoName, ("lease", 30, "anna", 9, 1)), (NoTime, ("lease", 30, "anna", 1, 0)),
            (Ended, ("lease", 30, "anna", 1, 99)), (TooMany, ("ask", 30, "anna", 6)), (NoLease, ("ask", 60, "anna", 1)),
            (NoLease, ("back", 30, "bert")), (Empty, ("take", 30, "anna", 4)), (TooMany, ("take", 30, "anna", 0)),
            (NoRow, ("fall", 30)), (TooMany, ("store", 30, "bert", 0)),
        ]:
            self.assert_refused(world, refusal, row)
            self.assertEqual(now_of(world), 10)
        self.assertEqual(world.put(("take", 10, "anna", 1)), names((10, 1, 0)))

    def test_a_refused_first_row_leaves_no_time(self):
        world = made()
        for row in [("fall", 30, "zeno"), ("ask", 30, "anna", 1), ("take", 30, "anna", 1), ("lease", 30, "anna", 9, 1)]:
            self.assertRaises((NoHolder, NoLease, Empty, NoName), world.put, row)
        self.assertIsNone(now_of(world))
        world.put(("fall", -5, "anna"))


class TestTold(WorldCase):
    def filled(self):
        world = made()
        self.put_all(world, [
            ("lease", 10, "bert", 1, 50), ("lease", 10, "anna", 2, 50), ("ask", 10, "bert", 2), ("ask", 10, "anna", 1),
            ("store", 11, "anna", 2), ("ask", 11, "bert", 1), ("take", 12, "anna", 1), ("fall", 13, "bert"),
        ])
        return world

    def test_the_book_is_in_order(self):
        self.assertEqual(self.filled().book(), [
            (10, "bert", name(10, 1, 0)), (10, "bert", name(10, 1, 1)), (10, "anna", name(10, 2, 0)),
            (11, "bert", name(11, 1, 0)), (12, "anna", name(11, 2, 0))])
        for row in self.filled().book():
            self.assertIsInstance(row, tuple)

    def test_told_lists_are_the_askers_own(self):
        world = self.filled()
        before = seen(world)
        for ask in [world.book, world.leases]:
            told = ask()
            self.assertIsInstance(told, list)
            self.assertIsNot(ask(), told)
            told.clear()
            told.append("other")
        self.assertEqual(seen(world), before)

    def test_told_names_are_the_askers_own(self):
        world = self.filled()
        for row in [("ask", 13, "anna", 2), ("store", 13, "anna", 2), ("take", 13, "anna", 1), ("fall", 13, "anna")]:
            told = world.put(row)
            before = seen(world)
            told.clear()
            told.append(77)
            self.assertEqual(seen(world), before)
        self.assertEqual(world.put(("fall", 13, "anna")), [])

    def test_whose_a_name_is(self):
        world = self.filled()
        self.assertEqual(world.holder_of(name(10, 1, 0)), "bert")
        self.assertEqual(world.holder_of(name(59, 1, 4)), "bert")
        self.assertEqual(world.holder_of(name(10, 2, 4)), "anna")
        for parts in [(9, 1, 4), (60, 1, 0), (10, 0, 0), (10, 3, 0), (0, 0, 0), (99, 3, 4)]:
            self.assertIsNone(world.holder_of(name(*parts)))

    def test_of_what_is_no_name(self):
        world = self.filled()
        for wrong in NO_NUMBERS + [-1, 2000, FORTY, -FORTY, VAST]:
            self.assertRaises(NoName, world.holder_of, wrong)

    def test_two_worlds_of_one_dict(self):
        clocks = {"anna": RUNS}
        one = World(SMALL, 0, 0, clocks)
        other = World(SMALL, 0, 0, clocks)
        one.put(("lease", 5, "anna", 1, 5))
        self.assertEqual(seen(other), ([], [], None))
        self.assertEqual(one.put(("ask", 5, "anna", 1)), names((5, 1, 0)))
        self.assertRaises(NoLease, other.put, ("ask", 5, "anna", 1))
