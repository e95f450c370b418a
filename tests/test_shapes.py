import copy
import itertools
import unittest

from kinds import FORTY, NO_NUMBERS, VAST
from namehouses.errors import NoName, NoShape
from namehouses.shapes import Shape, is_whole, name_of, names_of, parts_of

SMALL = [Shape(1, 1, 1), Shape(3, 1, 1), Shape(1, 4, 1), Shape(1, 1, 5), Shape(3, 4, 5), Shape(5, 1, 3), Shape(4, 3, 1)]
GREAT = Shape(FORTY, FORTY - 2, FORTY - 7)
NO_SIZES = [0, -1, -7, -FORTY, -VAST] + NO_NUMBERS


def names_in(shape):
    return shape.moments * shape.houses * shape.counts


def parts_in(shape):
    return itertools.product(range(shape.moments), range(shape.houses), range(shape.counts))


def with_wrong(right, wrong):
    """The right ones with one, two, .. or all of them put in the wrong one's place."""
    for places in itertools.product([False, True], repeat=len(right)):
        if any(places):
            yield [wrong if place else thing for place, thing in zip(places, right)]


class TestWhole(unittest.TestCase):
    def test_whole_numbers(self):
        for thing in [0, 1, -1, 2, 31, 32, -32, FORTY, -FORTY, VAST, -VAST]:
            self.assertIs(is_whole(thing), True)

    def test_truths_are_none(self):
        self.assertIs(is_whole(True), False)
        self.assertIs(is_whole(False), False)

    def test_other_kinds_are_none(self):
        for thing in NO_NUMBERS:
            self.assertIs(is_whole(thing), False, thing)


class TestShape(unittest.TestCase):
    def test_fields(self):
        for sizes in [(1, 1, 1), (3, 4, 5), (1, 2, 1), (FORTY, FORTY - 1, FORTY - 2), (1, FORTY, 1)]:
            shape = Shape(*sizes)
            self.assertEqual((shape.moments, shape.houses, shape.counts), sizes)
            self.assertEqual(list(vars(shape)), ["moments", "houses", "counts"])

    def test_refused(self):
        for right in [[1, 1, 1], [3, 4, 5], [FORTY, FORTY, FORTY]]:
            for wrong in NO_SIZES:
                for sizes in with_wrong(right, wrong):
                    with self.assertRaises(NoShape):
                        Shape(*sizes)

    def test_unlike_wrong_ones_are_refused_too(self):
        for sizes in [(0, True, "3"), (None, -1, []), ([], {}, ()), ("1", "1", "1"), (0, -1, 2)]:
            with self.assertRaises(NoShape):
                Shape(*sizes)


class TestNameOf(unittest.TestCase):
    def test_told_by_the_parts(self):
        shape = Shape(3, 4, 5)
        self.assertEqual(name_of(shape, 0, 0, 0), 0)
        self.assertEqual(name_of(shape, 0, 0, 4), 4)
        self.assertEqual(name_of(shape, 0, 1, 0), 5)
        self.assertEqual(name_of(shape, 0, 3, 4), 19)
        self.assertEqual(name_of(shape, 1, 0, 0), 20)
        self.assertEqual(name_of(shape, 1, 2, 3), 33)
        self.assertEqual(name_of(shape, 2, 3, 4), 59)

    def test_all_names_of_small_shapes_in_order(self):
        for shape in SMALL:
            names = [name_of(shape, *parts) for parts in parts_in(shape)]
            self.assertEqual(names, list(range(names_in(shape))))

    def test_great_shape(self):
        self.assertEqual(name_of(GREAT, 0, 0, 0), 0)
        last = name_of(GREAT, GREAT.moments - 1, GREAT.houses - 1, GREAT.counts - 1)
        self.assertEqual(last, names_in(GREAT) - 1)
        middle = name_of(GREAT, 12345, 678, 9)
        self.assertEqual(middle, (12345 * (FORTY - 2) + 678) * (FORTY - 7) + 9)

    def test_refused(self):
        shape = Shape(3, 4, 5)
        for right in [[0, 0, 0], [1, 2, 3], [2, 3, 4]]:
            for wrong in [-1, -2, -FORTY, 5, 6, FORTY, VAST, -VAST] + NO_NUMBERS:
                for parts in with_wrong(right, wrong):
                    with self.assertRaises(NoName):
                        name_of(shape, *parts)

    def test_refused_just_at_the_shapes_numbers(self):
        for shape in SMALL + [GREAT]:
            sizes = [shape.moments, shape.houses, shape.counts]
            lasts = [size - 1 for size in sizes]
            self.assertEqual(name_of(shape, *lasts), names_in(shape) - 1)
            for places in itertools.product([0, 1], repeat=3):
                parts = [last + place for last, place in zip(lasts, places)]
                if any(places):
                    with self.assertRaises(NoName):
                        name_of(shape, *parts)


class TestPartsOf(unittest.TestCase):
    def test_told_by_the_name(self):
        shape = Shape(3, 4, 5)
        self.assertEqual(parts_of(shape, 0), (0, 0, 0))
        self.assertEqual(parts_of(shape, 4), (0, 0, 4))
        self.assertEqual(parts_of(shape, 5), (0, 1, 0))
        self.assertEqual(parts_of(shape, 20), (1, 0, 0))
        self.assertEqual(parts_of(shape, 33), (1, 2, 3))
        self.assertEqual(parts_of(shape, 59), (2, 3, 4))
        self.assertIsInstance(parts_of(shape, 33), tuple)

    def test_all_parts_of_small_shapes(self):
        for shape in SMALL:
            parts = [parts_of(shape, name) for name in range(names_in(shape))]
            self.assertEqual(parts, list(parts_in(shape)))

    def test_great_shape(self):
        many = names_in(GREAT)
        self.assertEqual(parts_of(GREAT, many - 1), (FORTY - 1, FORTY - 3, FORTY - 8))
        for name in [0, 1, FORTY, FORTY - 7, FORTY - 8, FORTY ** 2, many // 2, many // 3, many - 1]:
            self.assertEqual(name_of(GREAT, *parts_of(GREAT, name)), name)
        for parts in [(0, 0, 0), (7, 8, 9), (FORTY - 1, 0, 0), (0, FORTY - 3, 0), (0, 0, FORTY - 8), (5, FORTY // 2, 3)]:
            self.assertEqual(parts_of(GREAT, name_of(GREAT, *parts)), parts)

    def test_refused(self):
        for shape in SMALL + [GREAT]:
            many = names_in(shape)
            for wrong in [-1, -2, -FORTY, many, many + 1, many * 2, VAST, -VAST] + NO_NUMBERS:
                with self.assertRaises(NoName):
                    parts_of(shape, wrong)


class TestNamesOf(unittest.TestCase):
    def test_first_and_last(self):
        self.assertEqual([names_of(Shape(3, 4, 5), moment) for moment in range(3)], [(0, 19), (20, 39), (40, 59)])
        self.assertEqual([names_of(Shape(3, 1, 5), moment) for moment in range(3)], [(0, 4), (5, 9), (10, 14)])
        self.assertEqual([names_of(Shape(3, 4, 1), moment) for moment in range(3)], [(0, 3), (4, 7), (8, 11)])
        self.assertEqual([names_of(Shape(3, 1, 1), moment) for moment in range(3)], [(0, 0), (1, 1), (2, 2)])
        self.assertIsInstance(names_of(Shape(3, 4, 5), 1), tuple)

    def test_just_the_names_of_the_moment(self):
        for shape in SMALL:
            for moment in range(shape.moments):
                first, last = names_of(shape, moment)
                names = [name for name in range(names_in(shape)) if parts_of(shape, name)[0] == moment]
                self.assertEqual(list(range(first, last + 1)), names)

    def test_great_shape(self):
        each = GREAT.houses * GREAT.counts
        for moment in [0, 1, FORTY // 2, FORTY - 1]:
            self.assertEqual(names_of(GREAT, moment), (moment * each, moment * each + each - 1))

    def test_refused(self):
        for shape in SMALL + [GREAT]:
            for wrong in [-1, -FORTY, shape.moments, shape.moments + 1, VAST, -VAST] + NO_NUMBERS:
                with self.assertRaises(NoName):
                    names_of(shape, wrong)


class TestNothingIsChanged(unittest.TestCase):
    def test_what_is_refused_changes_nothing(self):
        shape = Shape(3, 4, 5)
        for thing in [[1, [2]], {1: [2]}, [], {}]:
            before = copy.deepcopy(thing)
            for asked in [Shape, lambda *parts: name_of(shape, *parts)]:
                with self.assertRaises((NoShape, NoName)):
                    asked(thing, thing, thing)
            for asked in [parts_of, names_of]:
                with self.assertRaises(NoName):
                    asked(shape, thing)
            self.assertIs(is_whole(thing), False)
            self.assertEqual(thing, before)
        self.assertEqual(vars(shape), {"moments": 3, "houses": 4, "counts": 5})
