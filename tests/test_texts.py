import random
import unittest

from houses import SMALL, name
from kinds import FORTY, NO_HOLDERS, NO_NUMBERS, NO_TEXTS, VAST
from namehouses.clocks import Clock
from namehouses.errors import NoName, NoText
from namehouses.shapes import Shape
from namehouses.texts import read_book, read_clock, read_row, show_book, show_clock, show_row
from namehouses.wording import show_name
from worlds import HOLDERS, ROWS, clock_by_chance, row_by_chance

NUMBERS = [0, 1, -1, 7, 10, -10, 99, 100, 10 ** 39, -10 ** 39, FORTY, -FORTY]
NO_NUMBER_TEXTS = [
    "", "00", "01", "-0", "-00", "-01", "007", "+1", "+0", "--1", "-", "- 1", "1-", "1.0", "1e3", "0x1", "1_0", "1,0",
    "any", "none", "anna", "a", "1a", "a1", "~", "True", "None", "1\n", "\n1", "\n", "1" + "0" * 40, "-1" + "0" * 40,
    "9" * 41, "0" * 40, "0" * 41, "1;", ";", "x", "1x",
]
SIGNS = " ,;-~\n019aAnylrusd."


def near(text):
    """Texts that differ from this one by one sign, or by two that changed places."""
    for place in range(len(text) + 1):
        head, tail = text[:place], text[place:]
        for sign in SIGNS:
            yield head + sign + tail
            if tail:
                yield head + sign + tail[1:]
        if tail:
            yield head + tail[1:]
        if len(tail) > 1:
            yield head + tail[1] + tail[0] + tail[2:]


class TextCase(unittest.TestCase):
    def assert_no_text(self, line, read, *given):
        with self.assertRaises(NoText) as taken:
            read(*given)
        self.assertEqual(taken.exception.line, line, given)

    def check_near(self, text, read, show):
        """Just what can be written is read: so what is read is written as it stood."""
        many = 0
        for other in near(text):
            try:
                told = read(other)
            except NoText:
                continue
            self.assertEqual(show(told), other)
            many += 1
        return many


class TestRows(TextCase):
    WRITTEN = [
        (("lease", 5, "anna", None, 100), "lease 5 anna any 100"), (("ask", 7, "anna", 3), "ask 7 anna 3"),
        (("back", 9, "anna"), "back 9 anna"), (("lease", -5, "b", 0, 1), "lease -5 b 0 1"),
        (("store", 0, "hubertus", 12), "store 0 hubertus 12"), (("take", 10, "z", 20), "take 10 z 20"),
        (("fall", -1, "anna"), "fall -1 anna"), (("bare", 30, "anna"), "bare 30 anna"),
    ]

    def test_written_and_read(self):
        for row, text in self.WRITTEN:
            self.assertEqual(show_row(row), text)
            told = read_row(text)
            self.assertEqual(told, row)
            self.assertIsInstance(told, tuple)
            self.assertEqual([part.__class__ for part in told], [part.__class__ for part in row])

    def test_each_number_at_each_place(self):
        for number in NUMBERS:
            for row in ROWS:
                for place in range(1, len(row)):
                    if place != 2:
                        other = row[:place] + (number,) + row[place + 1:]
                        self.assertEqual(show_row(other), " ".join(str(part) for part in other))
                        self.assertEqual(read_row(show_row(other)), other)

    def test_holders_called_like_words(self):
        for holder in ["any", "none", "lease", "ask", "back", "runs", "a", "abcdefgh"]:
            for row in [("lease", 5, holder, None, 1), ("lease", 5, holder, 1, 1), ("ask", 5, holder, 1), ("back", 5, holder)]:
                self.assertEqual(read_row(show_row(row)), row)
        self.assertEqual(show_row(("lease", 5, "any", None, 1)), "lease 5 any any 1")

    def test_nothing_more_is_asked(self):
        # Whether a world would take it is not the text's affair.
        for row in [("lease", 5, "anna", -1, 0), ("ask", 5, "anna", -7), ("take", 5, "anna", 0), ("store", -FORTY, "x", FORTY)]:
            self.assertEqual(read_row(show_row(row)), row)

    def test_no_text(self):
        for wrong in NO_TEXTS + [("ask", 7, "anna", 3), ["ask 7 anna 3"], b"ask 7 anna 3"]:
            self.assert_no_text(0, read_row, wrong)

    def test_numbers_that_are_none(self):
        for row in ROWS:
            words = show_row(row).split(" ")
            for place in range(1, len(words)):
                for wrong in NO_NUMBER_TEXTS:
                    if place == 2 or (wrong == "any" and (row[0], place) == ("lease", 3)):
                        continue
                    self.assert_no_text(0, read_row, " ".join(words[:place] + [wrong] + words[place + 1:]))

    def test_holders_that_are_none(self):
        wrong_ones = [thing for thing in NO_HOLDERS if isinstance(thing, str)]
        self.assertGreater(len(wrong_ones), 20)
        for row in ROWS:
            words = show_row(row).split(" ")
            for wrong in wrong_ones:
                self.assert_no_text(0, read_row, " ".join(words[:2] + [wrong] + words[3:]))

    def test_other_words_and_lengths(self):
        for wrong in [
            "", " ", "\n", "ask", "ask 7", "ask 7 anna", "ask 7 anna 3 4", "back 9", "back 9 anna 1", "lease 5 anna any",
            "lease 5 anna 100", "lease 5 anna any 100 1", "lease 5 anna any any", "lease any anna any 1", "give 7 anna 3",
            "Ask 7 anna 3", "ASK 7 anna 3", "world 1 2 3", "book", "back", "leases", "who 000", "7 ask anna 3",
            "ask anna 7 3", "ask 7 anna any", "fall 7 anna any", "ask,7,anna,3", "ask\t7 anna 3", "fall any anna",
            "lease 5 anna Any 1", "lease 5 anna none 1", "lease 5 anna ANY 1", "('ask', 7, 'anna', 3)",
        ]:
            self.assert_no_text(0, read_row, wrong)

    def test_blanks_and_line_feeds(self):
        for row, text in self.WRITTEN:
            for wrong in [text.replace(" ", "  "), text.replace(" ", ""), text + " ", " " + text, text + "\n", "\n" + text]:
                self.assert_no_text(0, read_row, wrong)
            for place, sign in enumerate(text):
                if sign == " ":
                    self.assert_no_text(0, read_row, text[:place] + "  " + text[place + 1:])
                    self.assert_no_text(0, read_row, text[:place] + text[place + 1:])
                    self.assert_no_text(0, read_row, text[:place] + "\n" + text[place + 1:])

    def test_just_what_can_be_written(self):
        many = 0
        for row, text in self.WRITTEN:
            many += self.check_near(text, read_row, show_row)
        self.assertGreater(many, 100)

    def test_by_chance(self):
        chance = random.Random(38)
        for turn in range(500):
            row = row_by_chance(chance, SMALL, HOLDERS, chance.randint(-50, 50))
            self.assertEqual(read_row(show_row(row)), row)


class TestClocks(TextCase):
    WRITTEN = [
        (0, [(10, 4, True), (20, 4, False)], "0, 10 4 runs, 20 4 stands"), (0, [], "0"), (-7, [], "-7"),
        (12, [(-3, -4, False)], "12, -3 -4 stands"), (1, [(0, 0, True)], "1, 0 0 runs"),
        (-1, [(-2, 5, True), (-1, 5, True), (0, -9, False)], "-1, -2 5 runs, -1 5 runs, 0 -9 stands"),
    ]

    def parts(self, clock):
        self.assertIsInstance(clock, Clock)
        self.assertTrue(all(isinstance(turn, tuple) and isinstance(turn[2], bool) for turn in clock.turns))
        return (clock.start, clock.turns)

    def test_written_and_read(self):
        for start, turns, text in self.WRITTEN:
            self.assertEqual(show_clock(Clock(start, turns)), text)
            self.assertEqual(self.parts(read_clock(text)), (start, turns))

    def test_each_number_at_each_place(self):
        for number in NUMBERS:
            for start, turns in [(number, []), (3, [(number, 4, True)]), (3, [(4, number, False)]), (number, [(5, number, True)])]:
                self.assertEqual(self.parts(read_clock(show_clock(Clock(start, turns)))), (start, turns))

    def test_no_text(self):
        for wrong in NO_TEXTS + [Clock(0, []), ["0"], b"0, 10 4 runs"]:
            self.assert_no_text(0, read_clock, wrong)

    def test_numbers_that_are_none(self):
        for wrong in NO_NUMBER_TEXTS:
            self.assert_no_text(0, read_clock, wrong)
            self.assert_no_text(0, read_clock, wrong + ", 10 4 runs")
            self.assert_no_text(0, read_clock, f"0, {wrong} 4 runs")
            self.assert_no_text(0, read_clock, f"0, 10 {wrong} runs")
            self.assert_no_text(0, read_clock, f"0, -5 4 runs, 10 {wrong} stands")

    def test_other_forms(self):
        for wrong in [
            "", " ", "\n", ",", ", ", "0,", "0, ", "0 ,", ", 10 4 runs", "10 4 runs", "0 10 4 runs", "0,10 4 runs",
            "0 , 10 4 runs", "0,  10 4 runs", "0, 10  4 runs", "0, 10 4  runs", "0, 10 4 runs ", " 0, 10 4 runs",
            "0, 10 4 runs,", "0, 10 4 runs, ", "0, 10 4 runs\n", "0\n", "\n0", "0,\n10 4 runs", "0; 10 4 runs", "0, 10 4",
            "0, 10 runs", "0, 4", "0, runs", "0, 10 4 run", "0, 10 4 Runs", "0, 10 4 stand", "0, 10 4 stops", "0, 10 4 True",
            "0, 10 4 1", "0, 10 4 runs runs", "0, 10 4 5 runs", "0, 10 4 runs 20 4 stands", "0, 10 4 runs,20 4 stands",
            "0, 10 4 runs,, 20 4 stands", "0, 10, 4, runs", "0, 1", "0 0", "0, runs 10 4", "anna 0", "0 runs", "0 stands",
        ]:
            self.assert_no_text(0, read_clock, wrong)

    def test_times_that_do_not_rise(self):
        for wrong in [
            "0, 10 4 runs, 10 4 runs", "0, 10 4 runs, 9 4 runs", "0, 10 4 runs, 20 4 runs, 15 4 stands",
            "0, 1 1 stands, 0 0 stands", "0, -1 1 runs, -2 1 runs", "0, 0 0 runs, 0 1 runs",
        ]:
            self.assert_no_text(0, read_clock, wrong)

    def test_just_what_can_be_written(self):
        many = 0
        for start, turns, text in self.WRITTEN:
            many += self.check_near(text, read_clock, show_clock)
        self.assertGreater(many, 100)

    def test_by_chance(self):
        chance = random.Random(39)
        for turn in range(300):
            clock = clock_by_chance(chance, 50, 40)
            self.assertEqual(self.parts(read_clock(show_clock(clock))), self.parts(clock))


class TestBooks(TextCase):
    BOOK = [("anna", name(5, 1, 0)), ("b", 0), ("hubertus", 1999), ("anna", name(5, 1, 0))]
    TEXT = "anna 039\nb 000\nhubertus 1yf\nanna 039"

    def read(self, text):
        return read_book(SMALL, text)

    def show(self, book):
        return show_book(SMALL, book)

    def test_written_and_read(self):
        self.assertEqual(self.show(self.BOOK), self.TEXT)
        told = self.read(self.TEXT)
        self.assertEqual(told, self.BOOK)
        self.assertIsInstance(told, list)
        self.assertIsInstance(told[0], tuple)

    def test_no_rows(self):
        self.assertEqual(self.show([]), "")
        self.assertEqual(self.read(""), [])

    def test_one_row(self):
        self.assertEqual(self.show([("anna", 7)]), "anna 007")
        self.assertEqual(self.read("anna 007"), [("anna", 7)])

    def test_other_shapes(self):
        for shape, each, text in [
            (Shape(1, 1, 1), 0, "anna 0"), (Shape(32, 1, 1), 31, "anna z"), (Shape(33, 1, 1), 31, "anna 0z"),
            (Shape(10, 1, 40), 399, "anna cf"),
        ]:
            self.assertEqual(show_book(shape, [("anna", each)]), text)
            self.assertEqual(read_book(shape, text), [("anna", each)])

    def test_forty_figures(self):
        shape = Shape(FORTY, FORTY, FORTY)
        book = [("anna", FORTY ** 3 - 1), ("bert", 0), ("anna", FORTY ** 2)]
        self.assertEqual(read_book(shape, show_book(shape, book)), book)

    def test_no_text(self):
        for wrong in NO_TEXTS + [[("anna", 7)], ["anna 007"], b"anna 007", b""]:
            self.assert_no_text(0, self.read, wrong)

    def test_the_first_line_that_cannot_be_read(self):
        lines = self.TEXT.split("\n")
        for wrong in [
            "", " ", "anna", "anna ", " 039", "039", "anna 39", "anna 0039", "anna 03i", "anna 03A", "anna  039", "anna 039 ",
            " anna 039", "anna 039 1", "Anna 039", "anna1 039", "abcdefghi 039", "anna 1yg", "anna zzz", "anna -01", "anna,039",
            "039 anna", "anna039", "5 anna 039", "anna 039..03a", "~ 039", "anna\t039",
        ]:
            for place in range(len(lines)):
                text = "\n".join(lines[:place] + [wrong] + lines[place + 1:])
                self.assert_no_text(place, self.read, text)
                # What is behind it isn't asked.
                self.assert_no_text(place, self.read, text + "\n" + wrong)
                self.assert_no_text(place, self.read, text + "\n")

    def test_line_feeds(self):
        for wrong, line in [
            ("\n", 0), ("\n\n", 0), ("anna 039\n", 1), ("\nanna 039", 0), ("anna 039\n\nb 000", 1),
            (self.TEXT + "\n", 4), (self.TEXT + "\n\n", 4), ("\n" + self.TEXT, 0), ("anna 039 b 000", 0),
        ]:
            self.assert_no_text(line, self.read, wrong)

    def test_just_what_can_be_written(self):
        self.assertGreater(self.check_near(self.TEXT, self.read, self.show), 50)
        self.assertGreater(self.check_near("anna 000", self.read, self.show), 10)

    def test_what_is_no_name(self):
        for wrong in NO_NUMBERS + [-1, 2000, FORTY, -FORTY, VAST]:
            for book in [[("anna", wrong)], [("anna", 5), ("bert", wrong)], [("anna", wrong), ("anna", 5)]]:
                self.assertRaises(NoName, show_book, SMALL, book)

    def test_what_is_no_book(self):
        for wrong in [None, 7, "anna 007", (("anna", 5),), [5], [("anna",)], [("anna", 5, 5)], [["anna", 5]], {"anna": 5}]:
            self.assertRaises(NoName, show_book, SMALL, wrong)
        for wrong in NO_HOLDERS:
            self.assertRaises(NoName, show_book, SMALL, [("anna", 5), (wrong, 5)])

    def test_shown_as_names_are(self):
        chance = random.Random(6)
        for turn in range(200):
            shape = Shape(chance.randint(1, 9 ** chance.randint(1, 20)), chance.randint(1, 50), chance.randint(1, 50))
            most = shape.moments * shape.houses * shape.counts
            book = [(chance.choice(HOLDERS), chance.randrange(most)) for place in range(chance.randint(0, 9))]
            before = list(book)
            text = show_book(shape, book)
            self.assertEqual(text, "\n".join(holder + " " + show_name(shape, each) for holder, each in book))
            self.assertEqual(read_book(shape, text), book)
            self.assertEqual(book, before)
