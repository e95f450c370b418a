"""The greatest sizes that the document tells of are answered soon, and right."""

import random
import time
import unittest

from kinds import FORTY
from namehouses.clocks import Clock, apart
from namehouses.desk import Desk
from namehouses.errors import HouseError
from namehouses.house import House
from namehouses.judging import judge, played
from namehouses.shapes import Shape, name_of
from namehouses.texts import read_book, read_clock, show_book, show_clock
from namehouses.world import World, back_by, meeting
from worlds import HOLDERS

GREAT = Shape(FORTY, FORTY, FORTY)
# Far more than each of these takes, so that a busy machine doesn't fail them.
SOON = 5


def rising(chance, low, high, many):
    """So many numbers, each above the one ahead: of so great numbers no two come alike."""
    return sorted(chance.randrange(low, high) for place in range(many))


def clock_of_forty_turns(chance, low=-FORTY, high=FORTY, most=FORTY):
    return Clock(chance.randrange(most), [
        (each, chance.randrange(most), chance.random() < 0.7) for each in rising(chance, low, high, 40)])


class SizeCase(unittest.TestCase):
    def setUp(self):
        self.begun = time.perf_counter()

    def tearDown(self):
        self.assertLess(time.perf_counter() - self.begun, SOON)


class TestWorlds(SizeCase):
    def test_forty_figures_forty_turns_eight_holders_two_hundred_rows(self):
        chance = random.Random(1)
        for turn in range(5):
            clocks = {holder: clock_of_forty_turns(chance) for holder in HOLDERS}
            world = World(GREAT, FORTY, FORTY // 2, clocks)
            done = 0
            for now in rising(chance, -FORTY, FORTY, 200):
                holder = chance.choice(HOLDERS)
                rows = [
                    ("lease", now, holder, chance.choice([None, FORTY - 1]), chance.choice([1, FORTY // 9, FORTY])),
                    ("ask", now, holder, chance.choice([1, 10])), ("store", now, holder, chance.choice([1, FORTY])),
                    ("take", now, holder, 3), ("back", now, holder), ("fall", now, holder), ("bare", now, holder),
                ]
                try:
                    world.put(chance.choice(rows[:4] * 3 + rows))
                    done += 1
                except HouseError:
                    continue
            self.assertGreater(done, 30)
            for each, holder, name in world.book():
                self.assertEqual(world.holder_of(name), holder)

    def test_two_hundred_leases(self):
        clocks = {holder: Clock(0, []) for holder in HOLDERS}
        world = World(GREAT, 0, 0, clocks)
        for place in range(200):
            world.put(("lease", place // 9, HOLDERS[place % 8], None, FORTY // 2))
        self.assertEqual([lease[1] for lease in world.leases()], list(range(200)))
        self.assertIsNone(world.holder_of(name_of(GREAT, 0, 200, 0)))
        self.assertEqual(world.holder_of(name_of(GREAT, 50, 199, FORTY - 1)), HOLDERS[199 % 8])

    def test_two_thousand_names_at_once(self):
        world = World(GREAT, 0, 0, {"anna": Clock(0, [])})
        world.put(("lease", FORTY - 9, "anna", FORTY - 1, 9))
        names = world.put(("ask", FORTY - 9, "anna", 2000))
        first = name_of(GREAT, FORTY - 9, FORTY - 1, 0)
        self.assertEqual(names, list(range(first, first + 2000)))
        world.put(("store", FORTY - 8, "anna", FORTY))
        first = name_of(GREAT, FORTY - 8, FORTY - 1, 0)
        self.assertEqual(world.put(("take", FORTY - 1, "anna", 2000)), list(range(first, first + 2000)))
        self.assertEqual(len(world.book()), 4000)

    def test_two_thousand_names_in_small_batches(self):
        world = World(Shape(FORTY, 3, 20), 0, 0, {"anna": Clock(0, [])})
        world.put(("lease", 0, "anna", 1, FORTY))
        for now in range(100):
            world.put(("store", now, "anna", 20))
        self.assertEqual(
            world.put(("take", 100, "anna", 2000)), [(now * 3 + 1) * 20 + count for now in range(100) for count in range(20)])

    def test_a_book_of_two_thousand_rows(self):
        chance = random.Random(2)
        for many in [1, 2, 8, 2000]:
            letters = "abcdefghijklmnopqrstuvwxyz"
            holders = ["".join(chance.choices(letters, k=8)) for place in range(many)]
            book = [(0, chance.choice(holders), chance.randrange(FORTY ** 3)) for place in range(2000)]
            told = back_by(GREAT, book)
            self.assertEqual(told is None, many == 1)
            pairs = [(holder, name) for each, holder, name in book]
            self.assertEqual(read_book(GREAT, show_book(GREAT, pairs)), pairs)

    def test_meeting(self):
        chance = random.Random(3)
        half = FORTY // 2
        for turn in range(5):
            one, other = [clock_of_forty_turns(chance, 0, half, half) for holder in ["one", "two"]]
            self.assertEqual(show_clock(read_clock(show_clock(one))), show_clock(one))
            by, early, late = apart(one, other, 0, half)
            ahead = FORTY - 1 - one.reading(early)
            rows = meeting(GREAT, ahead, one, other, 0, half)
            world = World(GREAT, ahead, FORTY, {"one": one, "two": other})
            for row in rows:
                world.put(row)
            self.assertEqual(back_by(GREAT, world.book())[0], by + ahead)


class TestJudge(SizeCase):
    def test_a_hundred_rows_two_thousand_names(self):
        shape = Shape(FORTY, FORTY, 20)
        chance = random.Random(4)
        moments = rising(chance, 0, FORTY, 100)
        book = [(chance.choice(HOLDERS), name_of(shape, moment, chance.randrange(FORTY), 19)) for moment in moments]
        told = judge(shape, book)
        self.assertEqual(told[0], "right")
        given = played(shape, told[1])
        self.assertEqual(len(given), 2000)
        self.assertEqual(given[19::20], book)
        self.assertEqual(judge(shape, book[:99] + [(book[98][0], 0)])[::2], ("wrong", 99))

    def test_wrong_at_the_end(self):
        shape = Shape(FORTY, 2, 20)
        book = [("anna", each * 40) for each in range(99)]
        self.assertEqual(judge(shape, book + [("bert", 98 * 40 + 19)]), ("wrong", 98, 99))

    def test_somewhat_more(self):
        shape = Shape(FORTY, 2, 20)
        book = [("anna", each * 40) for each in range(500)]
        self.assertEqual(judge(shape, book)[0], "right")


class TestHouse(SizeCase):
    def test_refused_by_great_numbers(self):
        house = House(GREAT, 0, 0, lambda note: None)
        house.take_lease((0, 0, FORTY))
        for reading in [-FORTY, 0, FORTY - 1]:
            for many in [FORTY, FORTY - 1]:
                try:
                    house.store(reading, many)
                except HouseError:
                    continue
        self.assertEqual(house.take(3), [0, 1, 2])


class TestDesk(SizeCase):
    def test_great_worlds(self):
        chance = random.Random(5)
        desk = Desk()
        clocks = "".join(f" ; {holder} {show_clock(clock_of_forty_turns(chance))}" for holder in HOLDERS)
        self.assertEqual(desk.say(f"world {FORTY} {FORTY} {FORTY} {FORTY} {FORTY}{clocks}"), "ok")
        self.assertEqual(desk.say(f"lease -{FORTY} anna {FORTY - 1} 5"), "ok")
        self.assertEqual(desk.say(f"lease -{FORTY} anna any 5").split(" ")[0], "ok")
        told = desk.say("leases").split(", ")
        self.assertEqual(len(told), 2)

    def test_two_thousand_names(self):
        desk = Desk()
        desk.say(f"world {FORTY} {FORTY} {FORTY} 0 0 ; anna 0")
        desk.say(f"lease 5 anna {FORTY - 1} 5")
        told = desk.say("ask 5 anna 2000").split(" ")
        self.assertEqual(len(told), 2000)
        self.assertEqual(told, sorted(told))
        self.assertEqual(desk.say("book"), "\n".join("anna " + text for text in told))
        self.assertEqual(desk.say("tell " + told[-1]), f"5 {FORTY - 1} 1999")
        self.assertEqual(desk.say("who " + told[-1]), "anna")
        self.assertEqual(desk.say("back"), "none")
