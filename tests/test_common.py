import copy
import random
import unittest

from kinds import FORTY, NO_HOLDERS, NO_NUMBERS, VAST
from namehouses.common import Common, is_holder
from namehouses.errors import Ended, NoHolder, NoLease, NoName, NoTime
from namehouses.shapes import Shape, name_of
from outcomes import outcome
from slow_common import SlowCommon

NO_HOUSES = [thing for thing in NO_NUMBERS if thing is not None] + [-1, 4, 5, -FORTY, FORTY, VAST, -VAST]
NO_MOMENTS = NO_NUMBERS
NO_SPANS = NO_NUMBERS + [0, -1, -FORTY, -VAST]
NO_LEASES = NO_NUMBERS + [
    0, 7, VAST, (0, 0), (0, 0, 10, 10), [0, 0, 10], ("anna", 0, 0, 10), ((0, 0, 10),), (False, 0, 10), (0, False, 10),
    (0, 0, None), (0, 0, "10"), (None, 0, 10), (0, None, 10), (0, [0], 10), (0, 0, {}), ({}, {}, {}), "lease",
    (0, 0, 9), (0, 0, 11), (0, 1, 10), (1, 0, 10), (0, 10, 0), (0, 0, 0), (0, 10, 10), (-1, 0, 10), (0, -1, 10),
    (4, 0, 10), (0, 0, 101), (0, 0, VAST), (VAST, 0, 10), (0, -VAST, 10),
]


def small_book():
    return Common(Shape(100, 4, 5))


class CommonCase(unittest.TestCase):
    def assert_refused(self, book, refusal, call, *given):
        before = book.leases()
        with self.assertRaises(refusal):
            call(*given)
        self.assertEqual(book.leases(), before)


class TestHolder(unittest.TestCase):
    def test_holders(self):
        for thing in ["a", "z", "anna", "one", "two", "abcdefgh", "zzzzzzzz", "any", "none", "lease"]:
            self.assertIs(is_holder(thing), True, thing)
        for letter in "abcdefghijklmnopqrstuvwxyz":
            self.assertIs(is_holder(letter), True)
            self.assertIs(is_holder("q" + letter), True)

    def test_no_holders(self):
        for thing in NO_HOLDERS:
            self.assertIs(is_holder(thing), False, thing)

    def test_each_other_sign_at_each_place(self):
        for number in list(range(32, 97)) + list(range(123, 127)) + [10]:
            for text in [chr(number), chr(number) + "ab", "a" + chr(number) + "b", "ab" + chr(number)]:
                self.assertIs(is_holder(text), False, text)

    def test_letters_of_other_tongues(self):
        for thing in ["\u00e4", "\u00df", "a\u00e9", "\u0430", "\u03b1"]:
            self.assertIs(is_holder(thing), False)


class TestLetOfAToldHouse(CommonCase):
    def test_shape_is_a_field(self):
        shape = Shape(3, 4, 5)
        self.assertIs(Common(shape).shape, shape)
        self.assertEqual(Common(shape).leases(), [])

    def test_free_from_the_moment_on(self):
        book = small_book()
        self.assertEqual(book.let("anna", 2, 10, 5), (2, 10, 15))
        self.assertEqual(book.let("anna", 3, 10, 5), (3, 10, 15))
        self.assertEqual(book.let("bert", 2, 15, 1), (2, 15, 16))
        self.assertEqual(book.let("bert", 2, 9, 1), (2, 9, 10))
        self.assertIsInstance(book.let("bert", 2, 50, 1), tuple)

    def test_behind_what_is_let(self):
        book = small_book()
        book.let("anna", 0, 10, 10)
        for moment, span, first in [(10, 5, 20), (12, 3, 25), (19, 2, 28), (9, 2, 30), (9, 1, 9), (0, 9, 0), (0, 1, 32)]:
            self.assertEqual(book.let("bert", 0, moment, span), (0, first, first + span))

    def test_gaps_too_narrow_are_passed_over(self):
        book = small_book()
        for moment in [0, 5, 11, 18]:
            book.let("anna", 0, moment, 2)
        self.assertEqual(book.let("anna", 0, 1, 6), (0, 20, 26))
        self.assertEqual(book.let("anna", 0, 1, 5), (0, 13, 18))
        self.assertEqual(book.let("anna", 0, 1, 4), (0, 7, 11))
        self.assertEqual(book.let("anna", 0, 1, 3), (0, 2, 5))
        self.assertEqual(book.let("anna", 0, 1, 1), (0, 26, 27))

    def test_leases_let_in_falling_order(self):
        book = small_book()
        for moment in [30, 20, 10]:
            book.let("anna", 0, moment, 5)
        self.assertEqual(book.let("anna", 0, 8, 4), (0, 15, 19))
        self.assertEqual(book.let("anna", 0, 8, 6), (0, 35, 41))

    def test_moments_below_nought_count_as_nought(self):
        for moment in [-1, -5, -FORTY]:
            book = small_book()
            self.assertEqual(book.let("anna", 1, moment, 5), (1, 0, 5))
            self.assertEqual(book.let("anna", 1, moment, 5), (1, 5, 10))
            self.assertEqual(book.let("anna", None, moment, 5), (0, 0, 5))
            self.assertEqual(book.let("anna", None, moment, 5), (2, 0, 5))

    def test_up_to_the_shapes_moments(self):
        book = small_book()
        self.assertEqual(book.let("anna", 0, 0, 100), (0, 0, 100))
        self.assertEqual(book.let("anna", 1, 99, 1), (1, 99, 100))
        self.assertEqual(book.let("anna", 1, 98, 1), (1, 98, 99))
        self.assertEqual(book.let("anna", 2, 50, 50), (2, 50, 100))

    def test_ended(self):
        book = small_book()
        for moment, span in [(0, 101), (1, 100), (99, 2), (100, 1), (101, 1), (FORTY, 1), (0, FORTY), (FORTY, FORTY)]:
            self.assert_refused(book, Ended, book.let, "anna", 0, moment, span)
        self.assert_refused(book, Ended, book.let, "anna", 0, -5, 101)
        book.let("anna", 0, 90, 5)
        self.assert_refused(book, Ended, book.let, "bert", 0, 89, 6)
        self.assert_refused(book, Ended, book.let, "bert", 0, 0, 91)
        self.assertEqual(book.let("bert", 0, 89, 5), (0, 95, 100))
        self.assert_refused(book, Ended, book.let, "bert", 0, 90, 1)

    def test_forty_figures(self):
        book = Common(Shape(FORTY, FORTY, FORTY))
        half = FORTY // 2
        self.assertEqual(book.let("anna", FORTY - 1, 7, half), (FORTY - 1, 7, half + 7))
        self.assertEqual(book.let("anna", FORTY - 1, 0, 8), (FORTY - 1, half + 7, half + 15))
        self.assertEqual(book.let("anna", FORTY - 1, 0, 7), (FORTY - 1, 0, 7))
        self.assertEqual(book.let("anna", FORTY - 1, FORTY - 1, 1), (FORTY - 1, FORTY - 1, FORTY))
        self.assert_refused(book, Ended, book.let, "anna", FORTY - 1, 0, half)
        self.assert_refused(book, NoName, book.let, "anna", FORTY, 0, 1)
        self.assertEqual(book.holder_of(name_of(book.shape, half, FORTY - 1, FORTY - 1)), "anna")
        self.assertIsNone(book.holder_of(name_of(book.shape, half, FORTY - 2, 0)))


class TestLetOfNoToldHouse(CommonCase):
    def test_the_least_house_free_at_the_moment(self):
        book = small_book()
        self.assertEqual(book.let("anna", None, 10, 5), (0, 10, 15))
        self.assertEqual(book.let("bert", None, 10, 5), (1, 10, 15))
        self.assertEqual(book.let("carl", None, 15, 5), (0, 15, 20))
        self.assertEqual(book.let("carl", None, 14, 1), (2, 14, 15))
        self.assertEqual(book.let("carl", None, 14, 2), (3, 14, 16))
        self.assertEqual(book.let("carl", None, 5, 5), (0, 5, 10))
        self.assertEqual(book.let("carl", None, 5, 6), (2, 5, 11))

    def test_told_houses_are_passed_over(self):
        book = small_book()
        book.let("anna", 1, 10, 5)
        book.let("anna", 0, 12, 1)
        self.assertEqual(book.let("bert", None, 10, 5), (2, 10, 15))
        self.assertEqual(book.let("bert", None, 10, 2), (0, 10, 12))

    def test_ended(self):
        book = small_book()
        for moment, span in [(0, 101), (99, 2), (100, 1), (FORTY, 1), (0, FORTY), (-1, 101)]:
            self.assert_refused(book, Ended, book.let, "anna", None, moment, span)
        for house in range(4):
            book.let("anna", house, 20, 1)
        # Later there would be room: but it is to begin just at the moment.
        self.assert_refused(book, Ended, book.let, "bert", None, 20, 1)
        self.assert_refused(book, Ended, book.let, "bert", None, 15, 6)
        self.assertEqual(book.let("bert", None, 15, 5), (0, 15, 20))

    def test_one_house_alone(self):
        book = Common(Shape(10, 1, 1))
        self.assertEqual(book.let("anna", None, 0, 10), (0, 0, 10))
        self.assert_refused(book, Ended, book.let, "bert", None, 0, 1)

    def test_forty_figures(self):
        book = Common(Shape(FORTY, FORTY, FORTY))
        for house in range(60):
            self.assertEqual(book.let("anna", None, 5, FORTY - 5), (house, 5, FORTY))
        self.assertEqual(book.let("anna", None, 0, 5), (0, 0, 5))
        self.assertEqual(book.let("anna", None, 0, 6), (60, 0, 6))
        self.assert_refused(book, Ended, book.let, "anna", None, 5, FORTY - 4)


class TestLetRefused(CommonCase):
    def setUp(self):
        self.book = small_book()
        self.book.let("anna", 0, 0, 10)

    def test_no_holder(self):
        for wrong in NO_HOLDERS:
            for given in [(0, 0, 1), (None, 0, 1), (4, 0, 1), ([], [], []), (0, 0, 0), (0, 0, 500), (True, None, None)]:
                self.assert_refused(self.book, NoHolder, self.book.let, wrong, *given)

    def test_no_house(self):
        for wrong in NO_HOUSES:
            for given in [(0, 1), ([], []), (0, 0), (None, 1), (0, True), (500, 1)]:
                self.assert_refused(self.book, NoName, self.book.let, "anna", wrong, *given)

    def test_no_moment(self):
        for wrong in NO_MOMENTS:
            for house in [0, 3, None]:
                for span in [1, 500]:
                    self.assert_refused(self.book, NoTime, self.book.let, "anna", house, wrong, span)

    def test_no_span(self):
        for wrong in NO_SPANS:
            for house in [0, 3, None]:
                for moment in [0, 5, 500, -5, None]:
                    self.assert_refused(self.book, NoTime, self.book.let, "anna", house, moment, wrong)


class TestCut(CommonCase):
    def test_up_to_a_moment(self):
        book = small_book()
        lease = book.let("anna", 0, 0, 10)
        self.assertIsNone(book.cut(lease, 4))
        self.assertEqual(book.leases(), [("anna", 0, 0, 5)])
        self.assertEqual(lease, (0, 0, 10))
        self.assertEqual(book.let("bert", 0, 0, 10), (0, 5, 15))

    def test_first_and_last_moment(self):
        for used, until in [(10, 11), (11, 12), (18, 19), (19, 20)]:
            book = small_book()
            self.assertIsNone(book.cut(book.let("anna", 2, 10, 10), used))
            self.assertEqual(book.leases(), [("anna", 2, 10, until)])
            self.assertEqual(book.let("bert", 2, 10, 1), (2, until, until + 1))

    def test_none_used(self):
        book = small_book()
        lease = book.let("anna", 0, 10, 10)
        self.assertIsNone(book.cut(lease, None))
        self.assertEqual(book.leases(), [("anna", 0, 10, 10)])
        self.assertEqual(book.let("bert", 0, 5, 10), (0, 5, 15))
        self.assertEqual(book.let("bert", None, 15, 10), (0, 15, 25))

    def test_what_was_cut_ahead(self):
        for used in [None, 10, 15, 19]:
            book = small_book()
            lease = book.let("anna", 0, 10, 10)
            book.cut(lease, used)
            for again in [None, 10, 15, 19, 20, "a", []]:
                self.assert_refused(book, NoLease, book.cut, lease, again)
            # As it is now it was never let.
            self.assert_refused(book, NoLease, book.cut, book.leases()[0][1:], None)

    def test_leases_alike(self):
        book = small_book()
        for holder in ["anna", "bert", "carl"]:
            self.assertEqual(book.let(holder, 1, 10, 5), (1, 10, 15))
            if holder != "carl":
                book.cut((1, 10, 15), None)
        self.assertEqual(book.leases(), [("anna", 1, 10, 10), ("bert", 1, 10, 10), ("carl", 1, 10, 15)])
        book.cut((1, 10, 15), 12)
        self.assertEqual(book.leases(), [("anna", 1, 10, 10), ("bert", 1, 10, 10), ("carl", 1, 10, 13)])
        self.assert_refused(book, NoLease, book.cut, (1, 10, 15), 12)

    def test_let_as_an_earlier_one_is_now(self):
        book = small_book()
        book.let("anna", 0, 0, 10)
        book.cut((0, 0, 10), 4)
        self.assertEqual(book.let("bert", 0, 0, 5), (0, 5, 10))
        self.assert_refused(book, NoLease, book.cut, (0, 0, 5), 0)
        self.assert_refused(book, NoLease, book.cut, (0, 0, 10), 7)
        book.cut((0, 5, 10), 7)
        self.assertEqual(book.leases(), [("anna", 0, 0, 5), ("bert", 0, 5, 8)])

    def test_no_lease(self):
        book = small_book()
        book.let("anna", 0, 0, 10)
        book.let("anna", 2, 1, 1)
        for wrong in NO_LEASES + [(2, True, 2), (2, 1, 3), (2, 0, 2), (3, 1, 2)]:
            for used in [None, 0, 5, 9, 10, -1, True, "a", [], {}]:
                self.assert_refused(book, NoLease, book.cut, wrong, used)
        book.cut((0, 0, 10), 9)

    def test_no_moment_of_the_lease(self):
        book = small_book()
        lease = book.let("anna", 1, 10, 5)
        wrong_ones = [thing for thing in NO_NUMBERS if thing is not None]
        for wrong in wrong_ones + [9, 15, 16, 0, -1, -10, 99, 100, FORTY, -FORTY, VAST, -VAST]:
            self.assert_refused(book, NoTime, book.cut, lease, wrong)
        book.cut(lease, 14)

    def test_truths_are_no_moments(self):
        book = small_book()
        lease = book.let("anna", 0, 0, 10)
        for wrong in [True, False]:
            self.assert_refused(book, NoTime, book.cut, lease, wrong)
        self.assertEqual(book.leases(), [("anna", 0, 0, 10)])

    def test_no_lease_ahead_of_no_time(self):
        book = small_book()
        book.let("anna", 1, 10, 5)
        self.assert_refused(book, NoLease, book.cut, (1, 10, 16), "a")
        self.assert_refused(book, NoTime, book.cut, (1, 10, 15), "a")

    def test_forty_figures(self):
        book = Common(Shape(FORTY, FORTY, FORTY))
        lease = book.let("anna", FORTY - 1, 3, FORTY - 3)
        self.assert_refused(book, NoTime, book.cut, lease, 2)
        self.assert_refused(book, NoTime, book.cut, lease, FORTY)
        book.cut(lease, FORTY - 2)
        self.assertEqual(book.leases(), [("anna", FORTY - 1, 3, FORTY - 1)])
        self.assertEqual(book.let("bert", FORTY - 1, 3, 1), (FORTY - 1, FORTY - 1, FORTY))


class TestLeases(CommonCase):
    def test_order_in_which_they_were_let(self):
        book = small_book()
        book.let("zoe", 3, 50, 5)
        book.let("anna", 0, 50, 5)
        book.let("zoe", 3, 0, 5)
        book.let("bert", 0, 0, 1)
        told = [("zoe", 3, 50, 55), ("anna", 0, 50, 55), ("zoe", 3, 0, 5), ("bert", 0, 0, 1)]
        self.assertEqual(book.leases(), told)
        book.cut((0, 50, 55), 50)
        book.let("carl", 0, 51, 1)
        told[1] = ("anna", 0, 50, 51)
        self.assertEqual(book.leases(), told + [("carl", 0, 51, 52)])

    def test_a_told_list_is_the_askers_own(self):
        book = small_book()
        book.let("anna", 0, 0, 5)
        book.let("bert", 0, 0, 5)
        told = book.leases()
        self.assertIsInstance(told, list)
        self.assertIsInstance(told[0], tuple)
        self.assertIsNot(book.leases(), told)
        told.clear()
        told.append(("carl", 0, 0, 5))
        self.assertEqual(book.leases(), [("anna", 0, 0, 5), ("bert", 0, 5, 10)])
        self.assertEqual(book.holder_of(0), "anna")
        book.leases().reverse()
        self.assertEqual(book.leases(), [("anna", 0, 0, 5), ("bert", 0, 5, 10)])

    def test_two_books_are_apart(self):
        shape = Shape(10, 1, 1)
        one, other = Common(shape), Common(shape)
        self.assertEqual(one.let("anna", 0, 0, 10), (0, 0, 10))
        self.assertEqual(other.leases(), [])
        self.assertEqual(other.let("bert", 0, 0, 10), (0, 0, 10))


class TestHolderOf(CommonCase):
    def holders(self, book, house):
        return [book.holder_of(name_of(book.shape, moment, house, 0)) for moment in range(12)]

    def test_behind_lets_and_cuts(self):
        book = small_book()
        self.assertEqual(self.holders(book, 1), [None] * 12)
        book.let("anna", 1, 2, 6)
        self.assertEqual(self.holders(book, 1), [None] * 2 + ["anna"] * 6 + [None] * 4)
        book.let("bert", 1, 4, 2)
        self.assertEqual(self.holders(book, 1), [None] * 2 + ["anna"] * 6 + ["bert"] * 2 + [None] * 2)
        book.cut((1, 2, 8), 3)
        self.assertEqual(self.holders(book, 1), [None] * 2 + ["anna"] * 2 + [None] * 4 + ["bert"] * 2 + [None] * 2)
        book.let("carl", 1, 0, 3)
        self.assertEqual(
            self.holders(book, 1), [None] * 2 + ["anna"] * 2 + ["carl"] * 3 + [None] + ["bert"] * 2 + [None] * 2)
        book.cut((1, 8, 10), None)
        self.assertEqual(self.holders(book, 1), [None] * 2 + ["anna"] * 2 + ["carl"] * 3 + [None] * 5)
        for house in [0, 2, 3]:
            self.assertEqual(self.holders(book, house), [None] * 12)

    def test_all_counts_of_the_moment(self):
        book = small_book()
        book.let("anna", 1, 3, 1)
        names = [name for name in range(100 * 4 * 5) if book.holder_of(name) == "anna"]
        self.assertEqual(names, [name_of(book.shape, 3, 1, count) for count in range(5)])

    def test_no_name(self):
        book = small_book()
        book.let("anna", 0, 0, 100)
        for wrong in NO_NUMBERS + [-1, 2000, 2001, FORTY, -FORTY, VAST, -VAST]:
            self.assert_refused(book, NoName, book.holder_of, wrong)


class TestAgainstTheSlowBook(unittest.TestCase):
    def step(self, chance, quick, slow):
        shape = quick.shape
        if chance.random() < 0.6 or not slow.grants:
            house = chance.choice([None] + list(range(shape.houses)))
            given = (chance.choice(["anna", "bert", "carl"]), house,
                     chance.randint(-2, shape.moments), chance.randint(1, chance.choice([2, 5, shape.moments + 1])))
            self.assertEqual(outcome(quick.let, *given), outcome(slow.let, *given), given)
        else:
            lease = chance.choice(slow.grants)[1]
            used = chance.choice([None, lease[1], lease[2] - 1, chance.randint(lease[1] - 1, lease[2])])
            self.assertEqual(outcome(quick.cut, lease, used), outcome(slow.cut, lease, used), (lease, used))
        self.assertEqual(quick.leases(), slow.leases())

    def test_many_runs(self):
        chance = random.Random(14)
        for turn in range(120):
            shape = Shape(chance.randint(1, 16), chance.randint(1, 3), chance.randint(1, 2))
            quick, slow = Common(shape), SlowCommon(shape)
            for row in range(40):
                self.step(chance, quick, slow)
            for name in range(shape.moments * shape.houses * shape.counts):
                self.assertEqual(quick.holder_of(name), slow.holder_of(name))


class TestNothingIsChanged(unittest.TestCase):
    def test_what_is_handed_in_stays(self):
        book = small_book()
        book.let("anna", 0, 0, 10)
        for thing in [[0, 0, 10], {0: [0]}, [], {}, [["anna"]]]:
            before = copy.deepcopy(thing)
            calls = [
                (is_holder, thing), (book.let, thing, thing, thing, thing), (book.let, "anna", thing, thing, thing),
                (book.let, "anna", 0, thing, thing), (book.cut, thing, thing), (book.cut, (0, 0, 10), thing),
                (book.holder_of, thing),
            ]
            for call in calls:
                outcome(*call)
                self.assertEqual(thing, before)
        self.assertEqual(book.leases(), [("anna", 0, 0, 10)])
        self.assertEqual(vars(book.shape), {"moments": 100, "houses": 4, "counts": 5})
