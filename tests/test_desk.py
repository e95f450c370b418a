import random
import unittest

from kinds import FORTY, NO_HOLDERS, NO_TEXTS
from namehouses.desk import Desk
from namehouses.errors import (
    Backward, Empty, Ended, HouseError, NoHolder, NoLease, NoName, NoRow, NoShape, NoText, NoTime, TooMany, Wait,
)
from namehouses.judging import judge
from namehouses.shapes import Shape, parts_of
from namehouses.texts import show_book, show_clock, show_row
from namehouses.wording import show_name
from namehouses.world import World, back_by
from test_texts import NO_NUMBER_TEXTS
from worlds import makings_by_chance, rows_by_chance

# Moments 0 to 99, houses 0 to 3, counts 0 to 4: a name's text has three signs.
WORLD = "world 100 4 5 0 0 ; anna 0 ; bert 5, 10 4 runs, 20 4 stands"

# Rows that a desk with a world answers, whatever was said ahead.
ASKED = ["book", "leases", "who 039", "tell 039", "back", "judge\n", "judge\nanna 039"]


def seen(desk):
    """All that a desk with a world tells without being turned; the world's time by a row that is refused."""
    told = [desk.say(row) for row in ASKED]
    try:
        desk.say(f"take -{FORTY} anna 0")
    except Backward as refusal:
        told.append(refusal.now)
    except TooMany:
        told.append(None)
    return told


class DeskCase(unittest.TestCase):
    def opened(self, *rows):
        desk = Desk()
        for row in [WORLD, *rows]:
            desk.say(row)
        return desk

    def busy(self):
        return self.opened("lease 5 anna 1 50", "ask 5 anna 2", "lease 5 bert any 10", "store 6 anna 1", "ask 6 bert 1")

    def assert_refused(self, desk, refusal, row):
        before = seen(desk)
        with self.assertRaises(refusal) as taken:
            desk.say(row)
        self.assertEqual(seen(desk), before)
        return taken.exception


class TestAnswers(DeskCase):
    def test_a_new_world(self):
        desk = Desk()
        self.assertEqual(desk.say(WORLD), "ok")
        self.assertEqual(desk.say("lease 5 anna 1 50"), "ok")
        self.assertEqual(desk.say("leases"), "anna 1 5 55")
        self.assertEqual(desk.say(WORLD), "ok")
        self.assertEqual(desk.say("leases"), "")
        self.assertEqual(desk.say("lease -5 anna 1 50"), "ok")

    def test_the_worlds_parts(self):
        desk = Desk()
        desk.say("world 40 3 2 1 7 ; anna 0, 10 4 runs, 20 4 stands ; b -2")
        rows = ["lease 9 anna 2 30", "ask 9 anna 1", "ask 10 b 1"]
        self.assertEqual([desk.say(row) for row in rows[:2]], ["ok", show_name(Shape(40, 3, 2), 58)])
        # By the clock that stepped back: 9 and by 4 more, but for the one ahead.
        with self.assertRaises(Wait) as taken:
            desk.say("ask 10 anna 2")
        self.assertEqual(taken.exception.by, 5)
        self.assertRaises(NoLease, desk.say, rows[2])
        self.assertEqual(desk.say("fall 20 anna"), "ok")
        with self.assertRaises(Wait) as taken:
            desk.say("ask 20 anna 1")
        # The mark is 9 and 7, the reading stands at 4, and one ahead it may be.
        self.assertEqual(taken.exception.by, 12)
        desk.say("lease 20 b 0 1")
        self.assertEqual(desk.say("leases"), "anna 2 9 39, b 0 18 19")

    def test_each_kind_of_row(self):
        desk = Desk()
        for row, answer in [
            (WORLD, "ok"), ("lease 5 anna 1 50", "ok"), ("ask 5 anna 2", "039 03a"), ("ask 5 anna 1", "03b"),
            ("store 5 anna 2", "ok"), ("take 5 anna 1", "03c"), ("take 7 anna 1", "03d"), ("fall 7 anna", "ok"),
            ("back 7 anna", "ok"), ("leases", "anna 1 5 6"), ("bare 7 anna", "ok"), ("lease 7 anna any 5", "ok"),
            ("leases", "anna 1 5 6, anna 0 7 12"), ("book", "anna 039\nanna 03a\nanna 03b\nanna 03c\nanna 03d"),
        ]:
            self.assertEqual(desk.say(row), answer, row)

    def test_nothing_yet(self):
        desk = self.opened()
        for row, answer in [("book", ""), ("leases", ""), ("back", "none"), ("who 039", "none"), ("tell 039", "5 1 0")]:
            self.assertEqual(desk.say(row), answer)

    def test_book(self):
        desk = self.busy()
        self.assertEqual(desk.say("book"), "anna 039\nanna 03a\nbert 06w")
        desk.say("take 6 anna 1")
        self.assertEqual(desk.say("book"), "anna 039\nanna 03a\nbert 06w\nanna 03x")

    def test_leases(self):
        desk = self.busy()
        self.assertEqual(desk.say("leases"), "anna 1 5 55, bert 0 10 20")
        desk.say("back 6 bert")
        self.assertEqual(desk.say("leases"), "anna 1 5 55, bert 0 10 12")

    def test_who(self):
        desk = self.busy()
        for text, answer in [("039", "anna"), ("038", "none"), ("06w", "bert"), ("1yf", "none"), ("000", "none")]:
            self.assertEqual(desk.say("who " + text), answer)
        desk.say("back 6 anna")
        # House 1 was used up to moment 6.
        self.assertEqual(desk.say("who 03x"), "anna")
        self.assertEqual(desk.say("who 04h"), "none")

    def test_tell(self):
        desk = self.opened()
        for text, answer in [("039", "5 1 0"), ("03a", "5 1 1"), ("000", "0 0 0"), ("1yf", "99 3 4")]:
            self.assertEqual(desk.say("tell " + text), answer)

    def test_back(self):
        desk = self.opened("lease 5 anna 1 50", "ask 5 anna 2")
        self.assertEqual(desk.say("back"), "none")
        desk.say("lease 5 bert any 10")
        desk.say("ask 6 bert 1")
        self.assertIn(desk.say("back"), ["-6 0 2", "-6 1 2"])
        desk.say("ask 7 anna 1")
        self.assertEqual(desk.say("back"), "4 2 3")

    def test_judge(self):
        desk = self.opened()
        for text, answer in [
            ("", "right"), ("anna 039", "right"), ("anna 039\nanna 03a\nbert 000", "right"), ("anna 039\nanna 039", "wrong 0 1"),
            ("bert 000\nanna 03a\nanna 039", "wrong 1 2"), ("anna 039\nbert 03a", "wrong 0 1"), ("zeno 000\nyves 1yf", "right"),
        ]:
            self.assertEqual(desk.say("judge\n" + text), answer)
        # The world's own book is another matter.
        self.assertEqual(desk.say("book"), "")

    def test_the_worlds_book_judged(self):
        desk = self.busy()
        self.assertEqual(desk.say("judge\n" + desk.say("book")), "right")

    def test_holders_called_like_words(self):
        desk = Desk()
        desk.say("world 100 4 5 0 0 ; any 0 ; none 0 ; world 0 ; back 0")
        for row, answer in [
            ("lease 5 any any 2", "ok"), ("ask 5 any 1", "034"), ("who 034", "any"), ("lease 5 none any 2", "ok"),
            ("who 039", "none"), ("lease 5 back any 2", "ok"), ("back 5 back", "ok"), ("fall 5 world", "ok"),
        ]:
            self.assertEqual(desk.say(row), answer)

    def test_two_desks(self):
        one = self.busy()
        other = Desk()
        self.assertRaises(NoRow, other.say, "book")
        other.say("world 10 1 1 0 0 ; carl 0")
        before = seen(one)
        self.assertEqual(other.say("lease 3 carl 0 1"), "ok")
        self.assertEqual(other.say("ask 3 carl 1"), "3")
        self.assertEqual(seen(one), before)
        self.assertRaises(NoHolder, other.say, "fall 3 anna")
        self.assertEqual(one.say("fall 6 anna"), "ok")


class TestNoRows(DeskCase):
    NONE = [
        "", " ", "\n", "world", "Book", "book ", " book", "book\n", "\nbook", "books", "BOOK", "book 1", "leases ", "leases\n",
        "lease", "leases 1", "back ", "back\n", " back", "back 5", "back anna", "who", "who ", "tell", "tell ", "who  039",
        "who 039 ", " who 039", "who 039 03a", "tell 039 03a", "tell  039", "Who 039", "who039", "judge", "judge ", "judge 039",
        "judge anna 039", "judge \nanna 039", " judge\n", "Judge\n", "judges\n", "nothing", "ok", "none", "right", "ask",
        "ask 5 anna", "ask 5 anna any", "ask 5 anna 1 1", "ask 05 anna 1", "ask 5 anna 01", "ask 5 anna -0", "ask 5  anna 1",
        "ask 5 anna 1\n", "ask 5 Anna 1", "ask 5 anna 1 ", "Ask 5 anna 1", "ask 5 abcdefghi 1", "lease 5 anna 1", "give 5 anna",
        "lease 5 anna none 1", "fall 5", "bare 5", "fall five anna", "take 5 anna", "store 5 anna", "ask " + "1" * 41 + " anna 1",
        "take 5 anna 1; book", "book\nleases", "~", "('ask', 5, 'anna', 1)",
    ]

    def test_ahead_of_the_first_world(self):
        desk = Desk()
        for row in self.NONE + ASKED + ["who i", "tell", "judge\nnobody", "lease 5 anna 1 50", "fall 5 anna", "who ?"]:
            self.assertRaises(NoRow, desk.say, row)
        for wrong in NO_TEXTS:
            self.assertRaises(NoRow, desk.say, wrong)
        self.assertEqual(desk.say(WORLD), "ok")

    def test_no_rows(self):
        desk = self.busy()
        for row in self.NONE:
            self.assert_refused(desk, NoRow, row)

    def test_no_text(self):
        desk = self.busy()
        for wrong in NO_TEXTS + [["book"], ("ask", 5, "anna", 1), b"book", ("book",), {"book": 1}]:
            self.assert_refused(desk, NoRow, wrong)

    def test_numbers_that_are_none(self):
        desk = self.busy()
        for wrong in NO_NUMBER_TEXTS:
            for row in [f"ask {wrong} anna 1", f"ask 6 anna {wrong}", f"lease 6 anna 1 {wrong}", f"back {wrong} anna"]:
                self.assert_refused(desk, NoRow, row)
            if wrong != "any":
                self.assert_refused(desk, NoRow, f"lease 6 anna {wrong} 1")


class TestNoWorlds(DeskCase):
    def assert_none(self, refusal, row):
        self.assertRaises(refusal, Desk().say, row)
        self.assert_refused(self.busy(), refusal, row)

    def test_not_written_as_told(self):
        for row in [
            "world ", "world 100", "world 100 4 5 0", "world 100 4 5 0 0 0", "world 100 4 5 0 0 0 ; anna 0", "world ; anna 0",
            "world 100 4 5 0 ; anna 0", "world  100 4 5 0 0 ; anna 0", "World 100 4 5 0 0 ; anna 0", " world 100 4 5 0 0 ; anna 0",
            "world 100 4 5 0 0 ;", "world 100 4 5 0 0 ; ", "world 100 4 5 0 0 ; anna", "world 100 4 5 0 0 ; anna ",
            "world 100 4 5 0 0 ;anna 0", "world 100 4 5 0 0; anna 0", "world 100 4 5 0 0 anna 0", "world 100 4 5 0 0  ; anna 0",
            "world 100 4 5 0 0 ;  anna 0", "world 100 4 5 0 0 ; anna  0", "world 100 4 5 0 0 ; anna 0 ", "world 100 4 5 0 0\n",
            "world 100 4 5 0 0 ; anna 0\n", "world 100 4 5 0 0 ; anna 0 ;", "world 100 4 5 0 0 ; anna 0 ; ", "world 100 4 5 0 0 ",
            "world 100 4 5 0 0 ; anna 0 ; bert", "world 100 4 5 0 0 ; anna 0 ; 0", "world 100 4 5 0 0 ; anna 0 bert 0",
            "world 100 4 5 0 0 ; anna 0, bert 0", "world 100 4 5 0 0 ; anna 0;bert 0", "world 100 4 5 0 0 ; 0 anna",
            "world\n100 4 5 0 0 ; anna 0", "world 100 4 5 0 any ; anna 0", "worlds 100 4 5 0 0 ; anna 0",
        ]:
            self.assert_none(NoRow, row)

    def test_a_holder_twice(self):
        for row in [
            "world 100 4 5 0 0 ; anna 0 ; anna 0", "world 100 4 5 0 0 ; anna 0 ; bert 0 ; anna 1", "world 0 0 0 -1 -1 ; a 0 ; a 0",
        ]:
            self.assert_none(NoRow, row)

    def test_holders_that_are_none(self):
        for wrong in [thing for thing in NO_HOLDERS if isinstance(thing, str)]:
            self.assert_none(NoRow, f"world 100 4 5 0 0 ; {wrong} 0")
            self.assert_none(NoRow, f"world 0 4 5 -1 0 ; bert 0 ; {wrong} 0")

    def test_clocks_that_are_none(self):
        for wrong in [
            "", "a", "00", "-0", "0,", "0, ", "0, 10 4", "0, 10 4 run", "0,10 4 runs", "0, 10 4 runs, 10 4 runs", "9" * 41,
            "0, 10 4 runs, 9 4 runs", "0, 10 4 runs,", "0 10 4 runs", "0, 10 4 Stands",
        ]:
            self.assert_none(NoRow, f"world 100 4 5 0 0 ; anna {wrong}")
            self.assert_none(NoRow, f"world 0 4 5 -1 0 ; bert 0 ; anna {wrong}")

    def test_numbers_that_are_none(self):
        for wrong in NO_NUMBER_TEXTS:
            for place in range(5):
                words = ["100", "4", "5", "0", "0"]
                words[place] = wrong
                self.assert_none(NoRow, f"world {' '.join(words)} ; anna 0")

    def test_no_shape(self):
        for numbers in ["0 4 5", "100 0 5", "100 4 0", "-1 4 5", "100 -4 5", f"100 4 -{FORTY}"]:
            for rest in [" 0 0 ; anna 0", " -1 0 ; anna 0", " 0 -1", " 0 0"]:
                self.assert_none(NoShape, "world " + numbers + rest)

    def test_no_holder(self):
        for rest in ["0 0", "-1 0", "0 -1", "5 5"]:
            self.assert_none(NoHolder, "world 100 4 5 " + rest)

    def test_no_time(self):
        for rest in ["-1 0", "0 -1", "-5 -5", f"-{FORTY} 0"]:
            self.assert_none(NoTime, f"world 100 4 5 {rest} ; anna 0")

    def test_no_row_ahead_of_all_else(self):
        for row in ["world 0 4 5 0 0 ; Anna 0", "world 0 4 5 -1 0 ; anna", "world 100 4 5 -1 0 ; anna 0 ; anna 0"]:
            self.assert_none(NoRow, row)


class TestRefused(DeskCase):
    def test_as_the_world_refuses(self):
        desk = self.busy()
        for row, refusal in [
            ("ask 5 anna 1", Backward), ("ask 5 zeno 1", Backward), ("ask 6 zeno 1", NoHolder), ("fall 6 zeno", NoHolder),
            ("lease 6 anna 4 1", NoName), ("lease 6 anna -1 0", NoName), ("lease 6 anna 1 0", NoTime), ("back 60 carl", NoHolder),
            ("lease 6 anna any -1", NoTime), ("lease 6 anna 1 99", Ended), ("ask 6 anna 6", TooMany), ("ask 6 anna 0", TooMany),
            ("store 6 anna -1", TooMany), ("take 6 anna 0", TooMany), ("take 6 anna 2", Empty), ("ask 60 anna 1", NoLease),
            ("ask 6 anna 5", Wait),
        ]:
            self.assert_refused(desk, refusal, row)
        self.assertEqual(self.assert_refused(desk, Backward, "take 5 anna 1").now, 6)
        self.assertEqual(self.assert_refused(desk, Wait, "ask 6 anna 5").by, 1)
        self.assertEqual(desk.say("take 6 anna 1"), "03x")

    def test_names_texts_that_cannot_be_read(self):
        desk = self.busy()
        for wrong in ["0", "00", "0390", "03i", "03A", "1yg", "zzz", "anna", "039..03a", "-01", "~", "039\n", "\n", "who"]:
            for word in ["who", "tell"]:
                self.assertEqual(self.assert_refused(desk, NoText, f"{word} {wrong}").line, 0)

    def test_books_texts_that_cannot_be_read(self):
        desk = self.busy()
        for wrong, line in [
            ("anna", 0), ("\n", 0), ("anna 039\n", 1), ("anna 039\n\nbert 000", 1), ("anna 039\nbert 00", 1), ("Anna 039", 0),
            ("anna 039\nanna 039\nanna 1yg", 2), ("anna  039", 0), ("5 anna 039", 0), (" ", 0), ("judge\nanna 039", 0),
        ]:
            self.assertEqual(self.assert_refused(desk, NoText, "judge\n" + wrong).line, line)

    def test_no_text_ahead_of_no_shape(self):
        desk = Desk()
        desk.say("world 100 4 21 0 0 ; anna 0")
        for row, refusal in [
            ("judge\n", NoShape), ("judge\nanna 000", NoShape), ("judge\nanna 000\nanna 000", NoShape),
            ("judge\nanna 0000", NoText), ("judge\nanna 000\n", NoText), ("judge", NoRow),
        ]:
            self.assertRaises(refusal, desk.say, row)
        desk.say("world 100 4 20 0 0 ; anna 0")
        self.assertEqual(desk.say("judge\nanna 000\nanna 000"), "wrong 0 1")

    def test_a_refused_world_leaves_the_one_there_is(self):
        desk = self.busy()
        for row, refusal in [
            ("world 0 4 5 0 0 ; anna 0", NoShape), ("world 100 4 5 0 0", NoHolder), ("world 100 4 5 -1 0 ; anna 0", NoTime),
            ("world 100 4 5 0 0 ; anna", NoRow),
        ]:
            self.assert_refused(desk, refusal, row)
        self.assertEqual(desk.say("take 6 anna 1"), "03x")


class TestByChance(unittest.TestCase):
    """A desk beside a world that is put the rows themselves."""

    def say(self, call, *given):
        try:
            return call(*given)
        except HouseError as refusal:
            return refusal.__class__, vars(refusal)

    def put(self, shape, world, row):
        names = world.put(row)
        return " ".join(show_name(shape, name) for name in names) if names else "ok"

    def check_asked(self, desk, shape, world):
        book = [(holder, name) for time, holder, name in world.book()]
        self.assertEqual(desk.say("book"), show_book(shape, book))
        self.assertEqual(desk.say("leases"), ", ".join(f"{one} {two} {three} {four}" for one, two, three, four in world.leases()))
        back = back_by(shape, world.book())
        self.assertEqual(desk.say("back").split(" ")[0], "none" if back is None else str(back[0]))
        told = judge(shape, book)
        self.assertEqual(
            desk.say("judge\n" + desk.say("book")), "right" if told[0] == "right" else f"wrong {told[1]} {told[2]}")
        for holder, name in book:
            text = show_name(shape, name)
            self.assertEqual(desk.say("who " + text), holder)
            self.assertEqual(desk.say("tell " + text), " ".join(str(part) for part in parts_of(shape, name)))

    def test_many_runs(self):
        chance = random.Random(40)
        for turn in range(25):
            shape = Shape(chance.randint(30, 80), chance.randint(1, 16), chance.randint(1, 8))
            makings = makings_by_chance(chance, shape)
            numbers = [shape.moments, shape.houses, shape.counts, makings[1], makings[2]]
            holders = "".join(f" ; {holder} {show_clock(clock)}" for holder, clock in makings[3].items())
            desk = Desk()
            self.assertEqual(desk.say("world " + " ".join(str(number) for number in numbers) + holders), "ok")
            world = World(*makings)
            for row in rows_by_chance(chance, shape, list(makings[3]), 100):
                self.assertEqual(self.say(desk.say, show_row(row)), self.say(self.put, shape, world, row))
            self.check_asked(desk, shape, world)
