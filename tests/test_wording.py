import copy
import unittest

from kinds import FORTY, NO_NUMBERS, NO_TEXTS, VAST
from namehouses.errors import NoName, NoText
from namehouses.shapes import Shape
from namehouses.wording import read_name, read_stretch, show_name, show_stretch, width

SIGNS = "0123456789abcdefghjkmnpqrstvwxyz"
SMALL = [Shape(1, 1, 1), Shape(2, 1, 1), Shape(4, 4, 2), Shape(11, 3, 1), Shape(7, 5, 3), Shape(8, 8, 17)]
MIDDLE = Shape(1000, 4, 8)
GREAT = Shape(FORTY, FORTY, FORTY)


def names_in(shape):
    return shape.moments * shape.houses * shape.counts


class Wording(unittest.TestCase):
    def assert_no_text(self, reader, shape, text):
        with self.assertRaises(NoText) as taken:
            reader(shape, text)
        self.assertEqual(taken.exception.line, 0)
        self.assertIs(type(taken.exception.line), int)


class TestWidth(Wording):
    def test_edges(self):
        for many, signs in [(1, 1), (2, 1), (31, 1), (32, 1), (33, 2), (1023, 2), (1024, 2), (1025, 3)]:
            self.assertEqual(width(Shape(many, 1, 1)), signs)
            self.assertEqual(width(Shape(1, many, 1)), signs)
            self.assertEqual(width(Shape(1, 1, many)), signs)

    def test_all_three_numbers_count(self):
        self.assertEqual(width(Shape(4, 4, 2)), 1)
        self.assertEqual(width(Shape(11, 3, 1)), 2)
        self.assertEqual(width(Shape(32, 32, 1)), 2)
        self.assertEqual(width(Shape(32, 32, 32)), 3)
        self.assertEqual(width(Shape(32, 32, 33)), 4)

    def test_powers(self):
        for power in range(1, 60):
            self.assertEqual(width(Shape(32 ** power - 1, 1, 1)), power)
            self.assertEqual(width(Shape(32 ** power, 1, 1)), power)
            self.assertEqual(width(Shape(32 ** power + 1, 1, 1)), power + 1)

    def test_great_shape(self):
        self.assertEqual(width(GREAT), 80)


class TestShowName(Wording):
    def test_one_sign(self):
        shape = Shape(32, 1, 1)
        self.assertEqual("".join(show_name(shape, name) for name in range(32)), SIGNS)

    def test_first_and_last(self):
        for shape, first, last in [
            (Shape(1, 1, 1), "0", "0"), (Shape(4, 4, 2), "0", "z"), (Shape(11, 3, 1), "00", "10"),
            (Shape(32, 32, 1), "00", "zz"), (Shape(5, 5, 41), "000", "100"), (MIDDLE, "000", "z7z"),
            (Shape(32 ** 10, 32 ** 10, 1), "0" * 20, "z" * 20),
        ]:
            self.assertEqual(show_name(shape, 0), first)
            self.assertEqual(show_name(shape, names_in(shape) - 1), last)

    def test_greatest_place_ahead_and_noughts_ahead(self):
        self.assertEqual(show_name(MIDDLE, 1), "001")
        self.assertEqual(show_name(MIDDLE, 32), "010")
        self.assertEqual(show_name(MIDDLE, 1024 + 2 * 32 + 18), "12j")
        self.assertEqual(show_name(GREAT, 18), "0" * 79 + "j")

    def test_texts_are_ordered_as_the_names(self):
        for shape in SMALL + [MIDDLE]:
            texts = [show_name(shape, name) for name in range(names_in(shape))]
            self.assertEqual(texts, sorted(texts))
            self.assertEqual(len(set(texts)), len(texts))
            self.assertEqual({len(text) for text in texts}, {width(shape)})

    def test_texts_of_a_great_shape_are_ordered_too(self):
        names = sorted({32 ** power + more for power in range(1, 79) for more in [-1, 0, 1, 17]})
        texts = [show_name(GREAT, name) for name in names]
        self.assertEqual(texts, sorted(texts))
        self.assertEqual({len(text) for text in texts}, {80})

    def test_refused(self):
        for shape in SMALL + [MIDDLE, GREAT]:
            many = names_in(shape)
            for wrong in [-1, -2, -FORTY, many, many + 1, 2 * many, VAST, -VAST] + NO_NUMBERS:
                with self.assertRaises(NoName):
                    show_name(shape, wrong)


class TestReadName(Wording):
    def test_each_text_is_read_to_its_name(self):
        for shape in SMALL + [MIDDLE]:
            for name in range(names_in(shape)):
                self.assertEqual(read_name(shape, show_name(shape, name)), name)

    def test_great_shape(self):
        many = names_in(GREAT)
        for name in [0, 1, 31, 32, 33, FORTY, FORTY ** 2, many // 2, many // 7, many - 2, many - 1]:
            self.assertEqual(read_name(GREAT, show_name(GREAT, name)), name)

    def test_just_the_written_ones_are_read(self):
        shape = Shape(11, 3, 1)
        written = {show_name(shape, name) for name in range(33)}
        for one in SIGNS:
            for other in SIGNS:
                if one + other not in written:
                    self.assert_no_text(read_name, shape, one + other)

    def test_numbers_that_are_no_names(self):
        self.assertEqual(read_name(MIDDLE, "z7z"), 31999)
        for text in ["z80", "z81", "z90", "zzz"]:
            self.assert_no_text(read_name, MIDDLE, text)
        for text in ["1", "2", "z"]:
            self.assert_no_text(read_name, Shape(1, 1, 1), text)

    def test_too_short_and_too_long(self):
        for text in ["", "0", "00", "z7", "0000", "00000", "0012", "012 ", " 012", "0" * 5000]:
            self.assert_no_text(read_name, MIDDLE, text)

    def test_signs_that_are_none(self):
        for sign in list("ilouABCDEFGHIJKLMNOPQRSTUVWXYZ .,-+_/:~!\n'\""):
            for text in [sign + "12", "1" + sign + "2", "12" + sign]:
                self.assert_no_text(read_name, MIDDLE, text)
            self.assert_no_text(read_name, Shape(32, 1, 1), sign)

    def test_no_sign_at_an_end_is_left_out(self):
        for text in ["012\n", "\n012", "012.", "012..", "..012", "01\n", "0X1", "1_0"]:
            self.assert_no_text(read_name, MIDDLE, text)

    def test_no_texts(self):
        for shape in SMALL + [MIDDLE, GREAT]:
            for wrong in NO_TEXTS + [["0"], ("0", "0", "0"), {"0": "0"}, ["0", "1", "2"]]:
                self.assert_no_text(read_name, shape, wrong)


class TestShowStretch(Wording):
    def test_two_names(self):
        self.assertEqual(show_stretch(MIDDLE, 0, 1), "000..001")
        self.assertEqual(show_stretch(MIDDLE, 18, 31999), "00j..z7z")
        self.assertEqual(show_stretch(Shape(4, 4, 2), 0, 31), "0..z")
        self.assertEqual(show_stretch(GREAT, 0, 32), "0" * 80 + ".." + "0" * 78 + "10")

    def test_one_name(self):
        for name, text in [(0, "000"), (18, "00j"), (31999, "z7z")]:
            self.assertEqual(show_stretch(MIDDLE, name, name), text)
        self.assertEqual(show_stretch(Shape(1, 1, 1), 0, 0), "0")

    def test_second_below_the_first(self):
        for one, other in [(1, 0), (31999, 0), (31999, 31998), (500, 499)]:
            with self.assertRaises(NoName):
                show_stretch(MIDDLE, one, other)

    def test_no_names(self):
        for shape in SMALL + [MIDDLE, GREAT]:
            many = names_in(shape)
            for wrong in [-1, -FORTY, many, many + 1, VAST, -VAST] + NO_NUMBERS:
                for one, other in [(0, wrong), (wrong, 0), (many - 1, wrong), (wrong, many - 1), (wrong, wrong)]:
                    with self.assertRaises(NoName):
                        show_stretch(shape, one, other)


class TestReadStretch(Wording):
    def test_two_names(self):
        self.assertEqual(read_stretch(MIDDLE, "000..001"), (0, 1))
        self.assertEqual(read_stretch(MIDDLE, "00j..z7z"), (18, 31999))
        self.assertIsInstance(read_stretch(MIDDLE, "00j..z7z"), tuple)

    def test_one_name(self):
        self.assertEqual(read_stretch(MIDDLE, "000"), (0, 0))
        self.assertEqual(read_stretch(MIDDLE, "z7z"), (31999, 31999))
        self.assertIsInstance(read_stretch(MIDDLE, "000"), tuple)

    def test_each_stretch_of_a_small_shape(self):
        for shape in [Shape(1, 1, 1), Shape(2, 2, 2), Shape(11, 3, 1)]:
            for one in range(names_in(shape)):
                for other in range(one, names_in(shape)):
                    self.assertEqual(read_stretch(shape, show_stretch(shape, one, other)), (one, other))

    def test_great_shape(self):
        many = names_in(GREAT)
        for one, other in [(0, many - 1), (FORTY, FORTY), (FORTY, FORTY + 1), (many - 2, many - 1)]:
            self.assertEqual(read_stretch(GREAT, show_stretch(GREAT, one, other)), (one, other))

    def test_wrong_between(self):
        for text in [
            "000.001", "000...001", "000....001", "000 .. 001", "000.. 001", "000 ..001", "000..001 ", " 000..001",
            "000 001", "000001", "000-001", "000..\n001", "000..001\n", "000,,001", "000. .001", "000..001..002",
            "000..001..", "..000..001", "00..001", "000..01", "0000..001", "000..0001", "00...001", "000...01",
        ]:
            self.assert_no_text(read_stretch, MIDDLE, text)

    def test_same_twice_and_turned_about(self):
        for text in ["000..000", "00j..00j", "z7z..z7z", "001..000", "z7z..000", "010..00z"]:
            self.assert_no_text(read_stretch, MIDDLE, text)
        self.assert_no_text(read_stretch, Shape(1, 1, 1), "0..0")

    def test_points_ahead_or_behind(self):
        for text in ["", ".", "..", "...", "....", ".000", "..000", "000.", "000..", "...000", "000..."]:
            self.assert_no_text(read_stretch, MIDDLE, text)

    def test_what_is_no_names_text(self):
        for wrong in ["z80", "zzz", "00i", "00l", "00o", "00u", "00A", "00 ", "0", "0000", "00\n"]:
            for text in [wrong, "000.." + wrong, wrong + "..z7z", wrong + ".." + wrong]:
                self.assert_no_text(read_stretch, MIDDLE, text)

    def test_no_texts(self):
        for wrong in NO_TEXTS + [["000", "001"], ("000", "001"), ["000..001"], {"000": "001"}]:
            self.assert_no_text(read_stretch, MIDDLE, wrong)


class TestNothingIsChanged(unittest.TestCase):
    def test_what_is_refused_changes_nothing(self):
        for thing in [["000", ["001"]], {"000": ["001"]}, [], {}]:
            before = copy.deepcopy(thing)
            for reader in [read_name, read_stretch]:
                with self.assertRaises(NoText):
                    reader(MIDDLE, thing)
            with self.assertRaises(NoName):
                show_name(MIDDLE, thing)
            with self.assertRaises(NoName):
                show_stretch(MIDDLE, thing, thing)
            self.assertEqual(thing, before)
        self.assertEqual(vars(MIDDLE), {"moments": 1000, "houses": 4, "counts": 8})
