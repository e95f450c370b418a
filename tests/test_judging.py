import random
import unittest

from houses import SMALL, name
from kinds import FORTY, NO_HOLDERS, NO_NUMBERS, NO_TEXTS, TEXTS, VAST
from namehouses.errors import Ended, HouseError, NoHolder, NoLease, NoName, NoRow, NoShape, NoTime, TooMany, Wait
from namehouses.judging import judge, played
from namehouses.shapes import Shape
from outcomes import outcome
from worlds import HOLDERS

LEASE = ("lease", "anna", 1, 10, 20)
ASK = ("ask", "anna", 10, 2)

NO_ROWS = NO_TEXTS + TEXTS + [
    ("lease",), ("ask",), LEASE[:4], LEASE[:3], LEASE + (1,), LEASE[1:], ASK[:3], ASK + (1,), ASK[1:], list(LEASE),
    list(ASK), (LEASE,), (ASK,), [LEASE], [ASK], "lease anna 1 10 20", ("lease", "anna", 10, 2),
    ("ask", "anna", 1, 10, 2), ("store", "anna", 10, 2), ("take", "anna", 10, 2), ("back", "anna"), ("fall", "anna"),
    ("Lease", "anna", 1, 10, 20), ("LEASE", "anna", 1, 10, 20), ("lease ", "anna", 1, 10, 20), ("Ask", "anna", 10, 2),
    ("ask\n", "anna", 10, 2), ("", "anna", 10, 2), (b"ask", "anna", 10, 2), (["ask"], "anna", 10, 2),
    (("ask",), "anna", 10, 2), (None, "anna", 10, 2), (None, "anna", 1, 10, 20), ({}, "anna", 1, 10, 20),
    (5, "anna", 1, 10, 20), (4, "anna", 10, 2), ("anna", "ask", 10, 2), {"ask": "anna"}, ("back", 5, "anna", 1),
]


class TestPlayed(unittest.TestCase):
    def refused(self, refusal, *rows, shape=SMALL):
        with self.assertRaises(refusal) as taken:
            played(shape, list(rows))
        return taken.exception

    def test_nothing(self):
        self.assertEqual(played(SMALL, []), [])

    def test_leases_alone(self):
        self.assertEqual(played(SMALL, [LEASE, ("lease", "bert", None, -5, 3)]), [])

    def test_asked(self):
        self.assertEqual(played(SMALL, [LEASE, ASK]), [("anna", name(10, 1, 0)), ("anna", name(10, 1, 1))])
        told = played(SMALL, [
            LEASE, ("lease", "bert", 1, 10, 20), ("ask", "bert", 30, 1), ("ask", "anna", 12, 1), ("ask", "bert", 31, 1)])
        self.assertEqual(told, [("bert", name(30, 1, 0)), ("anna", name(12, 1, 0)), ("bert", name(31, 1, 0))])
        self.assertIsInstance(told, list)
        self.assertIsInstance(told[0], tuple)

    def test_no_told_house(self):
        told = played(SMALL, [
            ("lease", "anna", None, 10, 5), ("lease", "bert", None, 10, 5), ("ask", "bert", 10, 1), ("ask", "anna", 10, 1)])
        self.assertEqual(told, [("bert", name(10, 1, 0)), ("anna", name(10, 0, 0))])

    def test_the_newest_lease_counts(self):
        told = played(SMALL, [LEASE, ASK, ("lease", "anna", 3, 10, 5), ("ask", "anna", 10, 1)])
        self.assertEqual([each[1] for each in told], [name(10, 1, 0), name(10, 1, 1), name(10, 3, 0)])

    def test_one_common_book(self):
        told = played(SMALL, [
            ("lease", "anna", 1, 10, 2), ("lease", "bert", 1, 10, 2), ("lease", "anna", 1, 10, 2),
            ("ask", "bert", 12, 1), ("ask", "anna", 14, 1)])
        self.assertEqual(told, [("bert", name(12, 1, 0)), ("anna", name(14, 1, 0))])

    def test_ahead_nought(self):
        self.assertEqual(self.refused(Wait, LEASE, ("ask", "anna", 9, 1)).by, 1)
        self.assertEqual(self.refused(Wait, LEASE, ("ask", "anna", 10, 3), ("ask", "anna", 10, 3)).by, 1)

    def test_each_play_is_new(self):
        rows = [LEASE, ASK]
        self.assertEqual(played(SMALL, rows), played(SMALL, rows))
        self.assertEqual(rows, [LEASE, ASK])
        played(SMALL, rows).clear()
        self.assertEqual(len(played(SMALL, rows)), 2)

    def test_more_than_twenty_counts(self):
        told = played(Shape(10, 2, 21), [("lease", "anna", 0, 0, 1), ("ask", "anna", 0, 21)])
        self.assertEqual(told, [("anna", count) for count in range(21)])

    def test_no_list(self):
        for wrong in NO_TEXTS + TEXTS + [(LEASE, ASK), {0: LEASE}, LEASE, (), "lease"]:
            if wrong != []:
                self.assertRaises(NoRow, played, SMALL, wrong)

    def test_no_row(self):
        for wrong in NO_ROWS:
            self.refused(NoRow, wrong)
            self.refused(NoRow, LEASE, wrong)
            self.refused(NoRow, wrong, LEASE, ASK)

    def test_no_row_ahead_of_all_else_whichever_row_it_is(self):
        for first in [
            ("lease", "Anna", 1, 10, 20), ("lease", "anna", 9, 10, 20), ("lease", "anna", 1, None, 20), ("ask", "anna", 5, 0),
            ("lease", "anna", 1, 10, 0), ("lease", "anna", 1, 99, 20), ("ask", "anna", 5, 1), ("ask", [], 5, 1),
        ]:
            for wrong in NO_ROWS:
                self.refused(NoRow, first, LEASE, wrong)

    def test_no_holder(self):
        for wrong in NO_HOLDERS:
            for row in [
                ("lease", wrong, 1, 10, 20), ("ask", wrong, 10, 2), ("lease", wrong, 9, None, 0), ("ask", wrong, None, 0),
            ]:
                self.refused(NoHolder, row)
                self.refused(NoHolder, LEASE, ASK, row)

    def test_no_house(self):
        for wrong in [thing for thing in NO_NUMBERS if thing is not None] + [-1, 4, FORTY, VAST]:
            self.refused(NoName, ("lease", "anna", wrong, 10, 20))
            self.refused(NoName, ("lease", "anna", wrong, None, 0))

    def test_no_span_or_moment(self):
        for wrong in NO_NUMBERS:
            for house in [0, None]:
                self.refused(NoTime, ("lease", "anna", house, wrong, 20))
                self.refused(NoTime, ("lease", "anna", house, 10, wrong))
                self.refused(NoTime, ("lease", "anna", house, 500, wrong))
        for wrong in [0, -1, -FORTY]:
            self.refused(NoTime, ("lease", "anna", 0, 10, wrong))

    def test_ended(self):
        self.refused(Ended, ("lease", "anna", 0, 10, 91))
        self.refused(Ended, LEASE, ("lease", "bert", 1, 10, 71))
        self.refused(Ended, ("lease", "anna", None, 100, 1))

    def test_too_many_ahead_of_no_time_ahead_of_no_lease(self):
        for wrong in NO_NUMBERS + [0, -1, 6, FORTY]:
            self.refused(TooMany, ("ask", "anna", 10, wrong))
            self.refused(TooMany, ("ask", "anna", None, wrong))
            self.refused(TooMany, LEASE, ("ask", "anna", 5, wrong))
        for wrong in NO_NUMBERS:
            self.refused(NoTime, ("ask", "anna", wrong, 1))
            self.refused(NoTime, LEASE, ("ask", "anna", wrong, 1))

    def test_no_lease(self):
        self.refused(NoLease, ASK)
        self.refused(NoLease, LEASE, ("ask", "bert", 10, 2))
        self.refused(NoLease, LEASE, ("ask", "anna", 30, 1))
        self.refused(NoLease, LEASE, ("ask", "anna", 29, 5), ("ask", "anna", 29, 1))

    def test_row_by_row(self):
        rows = [("ask", "anna", 10, 1), ("lease", "A", 0, 0, 1), ("lease", "anna", 7, 0, 1)]
        self.refused(NoLease, *rows)
        self.refused(NoHolder, *rows[1:])
        self.refused(NoName, *rows[2:])
        self.refused(NoName, *reversed(rows))


def stand_together(shape, one, other):
    """By the words of the document, on names alone."""
    if one[1] == other[1]:
        return False
    if one[0] == other[0]:
        return other[1] > one[1]
    return one[1] // shape.counts != other[1] // shape.counts


def slow_wrong(shape, book):
    """The places of two rows that don't stand together, or None."""
    found = [
        (other, one) for other in range(len(book)) for one in range(other)
        if not stand_together(shape, book[one], book[other])]
    return None if not found else (min(found)[1], min(found)[0])


def is_within(book, told):
    """Whether the book's rows are told in order, perhaps with others between."""
    walk = iter(told)
    return all(row in walk for row in book)


class JudgeCase(unittest.TestCase):
    def check(self, shape, book):
        before = list(book)
        told = judge(shape, book)
        self.assertEqual(book, before)
        self.assertIsInstance(told, tuple)
        wrong = slow_wrong(shape, book)
        if wrong is not None:
            self.assertEqual(told, ("wrong", *wrong))
        else:
            self.assertEqual((told[0], len(told)), ("right", 2))
            self.assertIsInstance(told[1], list)
            given = played(shape, told[1])
            self.assertTrue(is_within(book, given), (book, told))
            self.assertLessEqual(len(given), 2000)
        return told[0]


class TestRight(JudgeCase):
    def assert_right(self, shape, book):
        self.assertEqual(self.check(shape, book), "right")

    def test_no_rows(self):
        self.assertEqual(judge(SMALL, []), ("right", []))

    def test_one_row(self):
        for parts in [(0, 0, 0), (99, 3, 4), (5, 2, 0), (5, 2, 4)]:
            self.assert_right(SMALL, [("anna", name(*parts))])

    def test_one_holder(self):
        self.assert_right(SMALL, [("anna", name(*parts)) for parts in [
            (5, 1, 0), (5, 1, 1), (5, 1, 4), (5, 2, 3), (5, 3, 0), (6, 0, 0), (6, 1, 2), (7, 1, 2), (7, 1, 3)]])

    def test_every_name_by_one_holder(self):
        shape = Shape(5, 4, 5)
        self.assert_right(shape, [("anna", each) for each in range(100)])

    def test_unlike_holders_of_one_moment(self):
        for order in [(0, 1, 2, 3), (3, 2, 1, 0), (2, 0, 3, 1)]:
            self.assert_right(SMALL, [(HOLDERS[house], name(5, house, 4)) for house in order])

    def test_unlike_holders_of_one_house(self):
        self.assert_right(SMALL, [
            ("anna", name(9, 1, 3)), ("bert", name(8, 1, 2)), ("carl", name(7, 1, 4)), ("bert", name(10, 1, 0)),
            ("anna", name(11, 1, 0)), ("carl", name(12, 1, 0))])

    def test_one_houses_moment_with_others_between(self):
        self.assert_right(SMALL, [
            ("anna", name(9, 1, 0)), ("bert", name(9, 2, 2)), ("anna", name(9, 1, 2)), ("bert", name(9, 2, 3)),
            ("anna", name(9, 1, 4)), ("bert", name(9, 3, 1)), ("anna", name(9, 3, 0) + 20)])

    def test_great_moments_and_many_houses(self):
        shape = Shape(FORTY, FORTY, 20)
        last = FORTY * FORTY * 20 - 1
        self.assert_right(shape, [("anna", last), ("bert", 0), ("carl", last - 20), ("bert", last // 2)])

    def test_a_told_list_is_the_askers_own(self):
        book = [("anna", name(5, 1, 0))]
        told = judge(SMALL, book)
        told[1].clear()
        self.assert_right(SMALL, book)


class TestWrong(JudgeCase):
    def assert_wrong(self, shape, book, one, other):
        self.assertEqual(judge(shape, book), ("wrong", one, other))
        self.check(shape, book)

    def test_the_same_name(self):
        self.assert_wrong(SMALL, [("anna", 7), ("anna", 7)], 0, 1)
        self.assert_wrong(SMALL, [("anna", 7), ("bert", 7)], 0, 1)

    def test_one_holder_whose_names_do_not_rise(self):
        for one, other in [((5, 1, 1), (5, 1, 0)), ((5, 2, 0), (5, 1, 4)), ((6, 0, 0), (5, 3, 4)), ((99, 3, 4), (0, 0, 0))]:
            self.assert_wrong(SMALL, [("anna", name(*one)), ("anna", name(*other))], 0, 1)
            self.assertEqual(self.check(SMALL, [("anna", name(*other)), ("anna", name(*one))]), "right")

    def test_unlike_holders_of_one_house_and_moment(self):
        for one, other in [(0, 1), (1, 0), (0, 4), (4, 3)]:
            self.assert_wrong(SMALL, [("anna", name(5, 1, one)), ("bert", name(5, 1, other))], 0, 1)
            self.assertEqual(self.check(SMALL, [("anna", name(5, 1, one)), ("bert", name(5, 2, other))]), "right")
            self.assertEqual(self.check(SMALL, [("anna", name(5, 1, one)), ("bert", name(6, 1, other))]), "right")

    def test_the_least_second_place(self):
        book = [("anna", 50), ("bert", 90), ("carl", 10), ("bert", 80), ("anna", 40)]
        self.assert_wrong(SMALL, book, 1, 3)
        # 0 and 4 don't stand together either.
        self.assert_wrong(SMALL, book[:3] + book[4:], 0, 3)

    def test_the_least_first_place(self):
        book = [("carl", 10), ("anna", 50), ("anna", 60), ("anna", 70), ("anna", 40)]
        self.assert_wrong(SMALL, book, 1, 4)
        self.assert_wrong(SMALL, book[:4] + [("anna", 65)], 3, 4)
        self.assert_wrong(SMALL, book[:4] + [("anna", 60)], 2, 4)
        self.assert_wrong(SMALL, book[:4] + [("bert", 52)], 1, 4)
        self.assert_wrong(SMALL, book[:4] + [("bert", 10)], 0, 4)

    def test_at_the_end_of_a_hundred_rows(self):
        shape = Shape(1000, 4, 20)
        rise = [("anna", each) for each in range(1, 7920, 80)]
        self.assertEqual(len(rise), 99)
        self.assert_wrong(shape, rise + [("anna", 7841)], 98, 99)
        self.assert_wrong(shape, rise + [("anna", 0)], 0, 99)
        self.assert_wrong(shape, rise + [("bert", 7859)], 98, 99)
        self.assertEqual(self.check(shape, rise + [("bert", 7860)]), "right")

    def test_great_moments(self):
        shape = Shape(FORTY, FORTY, 20)
        last = FORTY * FORTY * 20 - 1
        self.assert_wrong(shape, [("anna", last), ("bert", last - 19)], 0, 1)
        self.assert_wrong(shape, [("anna", last), ("anna", last - 1)], 0, 1)
        self.assertEqual(self.check(shape, [("anna", last), ("bert", last - 20)]), "right")


class TestRefused(unittest.TestCase):
    def test_more_than_twenty_counts(self):
        for counts in [21, 22, 100, FORTY]:
            shape = Shape(10, 2, counts)
            for book in [[], [("anna", 0)], [("anna", -1)], None, "book", 0, [("Anna", 0)], [("anna", 5), ("anna", 5)]]:
                self.assertRaises(NoShape, judge, shape, book)
        for counts in [1, 2, 19, 20]:
            shape = Shape(10, 2, counts)
            last = 20 * counts - 1
            self.assertEqual(judge(shape, [("anna", last)])[0], "right")
            self.assertEqual(len(played(shape, judge(shape, [("anna", last)])[1])), counts)
            self.assertRaises(NoName, judge, shape, None)
            self.assertRaises(NoName, judge, shape, [("anna", last + 1)])

    def test_no_list(self):
        for wrong in NO_TEXTS + TEXTS + [(("anna", 5),), {"anna": 5}, ("anna", 5), {("anna", 5)}, "anna 000"]:
            if wrong != []:
                self.assertRaises(NoName, judge, SMALL, wrong)

    def test_no_row_of_a_book(self):
        right = ("anna", 5)
        for wrong in NO_TEXTS + TEXTS + [
            ("anna",), ("anna", 5, 5), (0, "anna", 5), ["anna", 5], (5, "anna"), (right,), [right], "anna 5", "an",
        ]:
            for book in [[wrong], [right, wrong], [wrong, right], [right, right, wrong]]:
                self.assertRaises(NoName, judge, SMALL, book)

    def test_no_holder(self):
        for wrong in NO_HOLDERS:
            for book in [[(wrong, 5)], [("anna", 5), (wrong, 6)], [("anna", 5), ("anna", 5), (wrong, 6)]]:
                self.assertRaises(NoName, judge, SMALL, book)

    def test_no_name(self):
        for wrong in NO_NUMBERS + [-1, 2000, FORTY, -FORTY, VAST]:
            for book in [[("anna", wrong)], [("anna", 5), ("bert", wrong)], [("anna", 5), ("anna", 5), ("anna", wrong)]]:
                self.assertRaises(NoName, judge, SMALL, book)


class TestByChance(JudgeCase):
    def book(self, chance, shape, rise):
        names = range(shape.moments * shape.houses * shape.counts)
        holders = HOLDERS[:chance.randint(1, 4)]
        found = [(chance.choice(holders), chance.choice(names)) for place in range(chance.randint(0, 10))]
        return sorted(found, key=lambda row: row[1]) if rise else found

    def test_any_books(self):
        chance = random.Random(36)
        found = []
        for turn in range(1500):
            shape = Shape(chance.choice([1, 2, 20, 1000]), chance.randint(1, 4), chance.choice([1, 2, 5, 20]))
            found.append(self.check(shape, self.book(chance, shape, chance.random() < 0.7)))
        self.assertGreater(min(found.count("right"), found.count("wrong")), 300)

    def run_by_chance(self, chance, shape):
        """A run of which each row is taken."""
        rows = []
        told = []
        now = 0
        for turn in range(60):
            holder = chance.choice(HOLDERS[:4])
            now = max(0, now + chance.choice([0, 0, 0, 1, 1, -1]))
            house = chance.choice([None, *range(shape.houses)])
            row = chance.choice([
                ("lease", holder, house, now, chance.randint(1, 12)), ("ask", holder, now, chance.randint(1, shape.counts))])
            found = outcome(played, shape, rows + [row])
            if found[0] == "told":
                rows.append(row)
                told = found[1]
        return told

    def test_what_is_played_is_right(self):
        chance = random.Random(37)
        many = 0
        for turn in range(60):
            shape = Shape(30, chance.randint(1, 6), chance.randint(1, 6))
            told = self.run_by_chance(chance, shape)
            many += len(told)
            for part in range(3):
                book = [row for row in told if chance.random() < [1, 0.7, 0.3][part]]
                self.assertEqual(self.check(shape, book), "right")
        self.assertGreater(many, 500)


class TestEachRunOfASmallShape(unittest.TestCase):
    """Which pairs of rows stand together, found by playing all short runs."""

    def setUp(self):
        self.shape = Shape(2, 2, 2)
        self.leases = [
            ("lease", holder, house, moment, span)
            for holder in ["a", "b"] for house in [0, 1] for moment in [0, 1] for span in [1, 2]]
        self.asks = [("ask", holder, moment, many) for holder in ["a", "b"] for moment in [0, 1] for many in [1, 2]]

    def longer(self, runs, rows):
        """The runs, each with one row more, that aren't refused."""
        found = []
        for run in runs:
            for row in rows:
                try:
                    found.append((run + [row], played(self.shape, run + [row])))
                except HouseError:
                    continue
        return found

    def test_pairs(self):
        runs = [[]]
        pairs = set()
        for rows in [self.leases[:8], self.leases + self.asks, self.leases + self.asks, self.asks]:
            told = self.longer(runs, rows)
            runs = [run for run, book in told]
            for run, book in told:
                pairs |= {(one, other) for place, other in enumerate(book) for one in book[:place]}
        # The first lease is a's: what else there is is the same by other words.
        swap = {"a": "b", "b": "a"}
        pairs |= {tuple((swap[holder], each) for holder, each in pair) for pair in pairs}
        every = [(holder, each) for holder in ["a", "b"] for each in range(8)]
        for one in every:
            for other in every:
                right = judge(self.shape, [one, other])[0] == "right"
                self.assertEqual((one, other) in pairs, right, (one, other))
