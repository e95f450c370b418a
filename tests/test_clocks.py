import copy
import itertools
import random
import unittest

from kinds import FORTY, NO_NUMBERS, VAST
from namehouses.clocks import Clock, apart
from namehouses.errors import NoClock, NoTime

TURNS = [(10, 4, True), (20, 4, False), (25, -3, True), (30, 100, False), (31, 0, True)]


def some_clock(chance, begin, end, turns=4, wide=9):
    times = sorted(chance.sample(range(begin, end + 1), chance.randint(0, min(turns, end - begin + 1))))
    return Clock(
        chance.randint(-wide, wide) - begin,
        [(time, chance.randint(-wide, wide), chance.random() < 0.5) for time in times],
    )


def walked_apart(one, other, begin, end):
    """Through all pairs of times, in order: so the first of the greatest ones is kept."""
    best = None
    for first in range(begin, end + 1):
        for second in range(first, end + 1):
            number = one.reading(first) - other.reading(second)
            if best is None or number > best[0]:
                best = (number, first, second)
    return best


class TestClock(unittest.TestCase):
    def test_fields(self):
        for start, turns in [(0, []), (-5, [(1, 2, True)]), (FORTY, TURNS), (-FORTY, [(-FORTY, FORTY, False)])]:
            clock = Clock(start, turns)
            self.assertEqual(list(vars(clock).items()), [("start", start), ("turns", turns)])
            self.assertIsInstance(clock.turns, list)

    def test_times_that_rise(self):
        for turns in [
            [(0, 0, True), (1, 0, True)], [(-5, 0, True), (-4, 0, False), (0, 0, True)],
            [(-FORTY, 9, False), (FORTY, -9, True)], [(time, 0, True) for time in range(-20, 20)],
        ]:
            self.assertEqual(Clock(0, turns).turns, turns)

    def test_times_that_do_not_rise(self):
        for times in [(0, 0), (1, 0), (0, 5, 5), (0, 5, 4), (5, 0, 6), (-1, -2), (FORTY, FORTY), (1, 2, 3, 2), (3, 3, 4)]:
            with self.assertRaises(NoClock):
                Clock(0, [(time, place, True) for place, time in enumerate(times)])

    def test_readings_need_not_rise(self):
        Clock(0, [(1, 9, True), (2, 5, True), (3, 5, False), (4, -7, False)])

    def test_no_start(self):
        for wrong in NO_NUMBERS:
            for turns in [[], TURNS]:
                with self.assertRaises(NoClock):
                    Clock(wrong, turns)

    def test_no_list_of_turns(self):
        wrong_ones = [thing for thing in NO_NUMBERS if thing != []] + [0, 1, VAST]
        for wrong in wrong_ones + [tuple(TURNS), {1: 2}, {"turns": []}, iter(TURNS), set(TURNS), (1, 2, True)]:
            with self.assertRaises(NoClock):
                Clock(0, wrong)

    def test_no_turn_at_each_place(self):
        wrong_ones = NO_NUMBERS + [
            0, -3, VAST, (10, 4), (10, 4, True, True), [10, 4, True], (10,), ((10, 4, True),), "runs", {10: 4},
        ]
        for wrong in wrong_ones:
            for place in range(len(TURNS) + 1):
                with self.assertRaises(NoClock):
                    Clock(0, TURNS[:place] + [wrong] + TURNS[place:])

    def test_no_time_and_no_reading_within_a_turn(self):
        for wrong in NO_NUMBERS:
            for turn in [(wrong, 4, True), (15, wrong, True), (wrong, wrong, False)]:
                for turns in [[turn], [(-50, 0, True), turn], [turn, (50, 0, True)], [TURNS[0], turn, TURNS[1]]]:
                    with self.assertRaises(NoClock):
                        Clock(0, turns)

    def test_runs_is_true_or_false(self):
        for wrong in [thing for thing in NO_NUMBERS if not isinstance(thing, bool)] + [0, 1, 2, -1, "True", "runs"]:
            for turns in [[(15, 4, wrong)], [TURNS[0], (15, 4, wrong)], [(5, 4, wrong)] + TURNS]:
                with self.assertRaises(NoClock):
                    Clock(0, turns)

    def test_what_is_handed_in_stays_and_changed_behind_changes_nothing(self):
        turns = list(TURNS)
        clock = Clock(3, turns)
        before = [clock.reading(time) for time in range(-5, 50)]
        apart(clock, clock, -5, 50)
        self.assertEqual(turns, TURNS)
        turns[0] = (0, 1000, False)
        turns.append((40, 7, False))
        self.assertEqual([clock.reading(time) for time in range(-5, 50)], before)
        turns.clear()
        self.assertEqual([clock.reading(time) for time in range(-5, 50)], before)
        self.assertEqual((clock.start, clock.turns), (3, TURNS))

    def test_what_is_refused_stays_too(self):
        for turns in [[(1, 2, 3)], [(1, 2, True), (1, 2, True)], [[1, 2, True]], {"a": [1]}]:
            before = copy.deepcopy(turns)
            with self.assertRaises(NoClock):
                Clock(0, turns)
            self.assertEqual(turns, before)


class TestReading(unittest.TestCase):
    def test_without_turns(self):
        for start in [0, 7, -7, FORTY, -FORTY]:
            for time in [0, 1, -1, 100, -100, FORTY, -FORTY]:
                self.assertEqual(Clock(start, []).reading(time), start + time)

    def test_ahead_of_the_first_turn(self):
        clock = Clock(1000, TURNS)
        self.assertEqual([clock.reading(time) for time in [-FORTY, -5, 0, 8, 9]], [1000 - FORTY, 995, 1000, 1008, 1009])

    def test_at_turns_and_between_them(self):
        clock = Clock(1000, TURNS)
        self.assertEqual([clock.reading(time) for time in [10, 11, 15, 19]], [4, 5, 9, 13])
        self.assertEqual([clock.reading(time) for time in [20, 21, 24]], [4, 4, 4])
        self.assertEqual([clock.reading(time) for time in [25, 26, 28, 29]], [-3, -2, 0, 1])
        self.assertEqual([clock.reading(time) for time in [30]], [100])

    def test_behind_the_last_turn(self):
        clock = Clock(1000, TURNS)
        self.assertEqual([clock.reading(time) for time in [31, 32, 100, FORTY]], [0, 1, 69, FORTY - 31])
        standing = Clock(1000, TURNS[:4])
        self.assertEqual([standing.reading(time) for time in [30, 31, 100, FORTY]], [100, 100, 100, 100])

    def test_each_time_by_walking(self):
        chance = random.Random(9)
        for turn in range(200):
            clock = some_clock(chance, -6, 6, turns=6)
            now = clock.start - 30
            runs = True
            for time in range(-30, 30):
                for place in clock.turns:
                    if place[0] == time:
                        now, runs = place[1], place[2]
                self.assertEqual(clock.reading(time), now)
                now += runs

    def test_forty_turns_of_forty_figures(self):
        step = FORTY // 41
        turns = [(-FORTY // 2 + place * step, FORTY - place, place % 2 == 0) for place in range(40)]
        clock = Clock(-FORTY, turns)
        self.assertEqual(clock.reading(turns[0][0] - 1), -FORTY + turns[0][0] - 1)
        for place, (time, reading, runs) in enumerate(turns):
            self.assertEqual(clock.reading(time), reading)
            self.assertEqual(clock.reading(time + step - 1), reading + (step - 1 if runs else 0))

    def test_no_time(self):
        for clock in [Clock(0, []), Clock(5, TURNS)]:
            for wrong in NO_NUMBERS:
                with self.assertRaises(NoTime):
                    clock.reading(wrong)


class TestApart(unittest.TestCase):
    def test_alike(self):
        clock = Clock(0, [])
        self.assertEqual(apart(clock, clock, 0, 10), (0, 0, 0))
        self.assertEqual(apart(Clock(5, []), clock, -3, 10), (5, -3, -3))
        self.assertEqual(apart(clock, Clock(5, []), -3, 10), (-5, -3, -3))
        self.assertIsInstance(apart(clock, clock, 0, 10), tuple)

    def test_second_steps_back_behind_the_first_time(self):
        self.assertEqual(apart(Clock(0, []), Clock(0, [(5, 1, True)]), 0, 9), (4, 5, 5))
        self.assertEqual(apart(Clock(0, []), Clock(0, [(5, 1, False)]), 0, 9), (8, 9, 9))
        self.assertEqual(apart(Clock(0, [(5, 0, True)]), Clock(0, [(8, 0, True)]), 0, 9), (4, 4, 8))

    def test_only_the_same_time_or_a_later_one(self):
        # The second clock reads least ahead of the time at which the first one reads most.
        self.assertEqual(apart(Clock(0, [(5, 50, False)]), Clock(0, [(5, 100, False)]), 0, 9), (0, 0, 0))

    def test_least_first_time_and_for_it_the_least_second_one(self):
        standing = Clock(0, [(0, 7, False)])
        self.assertEqual(apart(standing, standing, 0, 9), (0, 0, 0))
        self.assertEqual(apart(standing, Clock(0, [(0, 9, False), (3, 2, False), (6, 2, False)]), 0, 9), (5, 0, 3))
        low_again = Clock(0, [(0, 2, True), (3, 2, True), (6, 2, True)])
        self.assertEqual(apart(standing, low_again, 0, 9), (5, 0, 0))
        self.assertEqual(apart(standing, low_again, 1, 9), (5, 1, 3))
        self.assertEqual(apart(Clock(0, [(0, 1, False), (4, 7, False), (6, 7, False)]), low_again, 0, 9), (5, 4, 6))

    def test_the_last_time_ahead_of_a_turn(self):
        self.assertEqual(apart(Clock(0, [(5, 0, True)]), Clock(0, [(0, 0, False)]), 0, 9), (4, 4, 4))
        self.assertEqual(apart(Clock(0, [(5, 0, False)]), Clock(0, [(0, 0, False)]), 0, 9), (4, 4, 4))
        self.assertEqual(apart(Clock(0, [(5, 0, True)]), Clock(0, [(0, 0, False)]), 0, 4), (4, 4, 4))

    def test_turns_outside_count_only_as_they_bear(self):
        one = Clock(0, [(-50, 0, True), (50, 9000, True)])
        other = Clock(0, [(-40, 0, False), (50, -9000, True)])
        self.assertEqual(apart(one, other, 0, 49), (99, 49, 49))
        self.assertEqual(apart(one, other, 0, 50), (18000, 50, 50))
        self.assertEqual(apart(one, other, -50, -41), (50, -50, -50))

    def test_begin_and_end_alike(self):
        one = Clock(3, TURNS)
        other = Clock(-2, [(12, 40, True), (22, 0, False)])
        for time in list(range(-3, 40)) + [FORTY, -FORTY]:
            self.assertEqual(apart(one, other, time, time), (one.reading(time) - other.reading(time), time, time))

    def test_against_all_pairs(self):
        chance = random.Random(10)
        for turn in range(3000):
            begin = chance.randint(-6, 6)
            end = begin + chance.randint(0, 12)
            one = some_clock(chance, -9, 21, turns=6, wide=chance.choice([1, 3, 9]))
            other = some_clock(chance, -9, 21, turns=6, wide=chance.choice([1, 3, 9]))
            told = apart(one, other, begin, end)
            self.assertEqual(told, walked_apart(one, other, begin, end), (vars(one), vars(other), begin, end))

    def test_against_all_pairs_with_turns_at_each_time(self):
        readings = [(reading, runs) for reading in [0, 1, 2] for runs in [True, False]]
        clocks = [
            Clock(0, [(0,) + first, (1,) + second, (3,) + third])
            for first, second, third in itertools.product(readings, repeat=3)
        ]
        chance = random.Random(11)
        for turn in range(4000):
            one, other = chance.choice(clocks), chance.choice(clocks)
            self.assertEqual(apart(one, other, 0, 4), walked_apart(one, other, 0, 4), (one.turns, other.turns))

    def test_vast_stretches_by_their_edges(self):
        # All times at or beside a turn or an end, and some between: among these the told ones must be the first best.
        chance = random.Random(12)
        for turn in range(3):
            clocks = []
            for number in range(2):
                times = sorted(chance.sample(range(-10 ** 18, 10 ** 18), 40))
                turns = [(time * 10 ** 21, chance.randint(-FORTY, FORTY), chance.random() < 0.5) for time in times]
                clocks.append(Clock(chance.randint(-FORTY, FORTY), turns))
            one, other = clocks
            begin, end = -FORTY // 2, FORTY // 2
            near = {begin, end}
            for time in [turn[0] for turn in one.turns + other.turns]:
                near |= {time - 1, time, time + 1, time + 10 ** 20}
            near = sorted(time for time in near if begin <= time <= end)
            ones = [(time, one.reading(time)) for time in near]
            others = [(time, other.reading(time)) for time in near]
            pairs = [(low - high, first, second) for first, high in ones for second, low in others if first <= second]
            best = min(pairs)
            self.assertEqual(apart(one, other, begin, end), (-best[0], best[1], best[2]))

    def test_vast_stretches_are_told_at_once(self):
        step = 2 * FORTY // 41
        times = [-FORTY + place * step for place in range(40)]
        one = Clock(-FORTY, [(time, -FORTY, True) for time in times])
        other = Clock(FORTY, [(time, FORTY, False) for time in times])
        last = times[1] - 1
        # One that walked the times would never come to an end here.
        self.assertEqual(apart(one, other, -FORTY, times[39] + 7), (step - 1 - 2 * FORTY, last, last))
        self.assertEqual(apart(other, one, -FORTY, FORTY), (2 * FORTY, -FORTY, -FORTY))
        self.assertEqual(apart(other, one, -FORTY + 1, FORTY), (2 * FORTY, -FORTY + 1, times[1]))

    def test_no_times(self):
        clock = Clock(5, TURNS)
        for wrong in NO_NUMBERS:
            for begin, end in [(wrong, 0), (0, wrong), (wrong, wrong), (wrong, FORTY), (-FORTY, wrong)]:
                with self.assertRaises(NoTime):
                    apart(clock, clock, begin, end)

    def test_end_below_begin(self):
        clock = Clock(5, TURNS)
        for begin, end in [(0, -1), (1, 0), (10, 9), (FORTY, -FORTY), (FORTY, FORTY - 1)]:
            with self.assertRaises(NoTime):
                apart(clock, clock, begin, end)

    def test_clocks_never_change(self):
        one, other = Clock(5, TURNS), Clock(-2, TURNS[1:3])
        apart(one, other, -5, 50)
        with self.assertRaises(NoTime):
            apart(one, other, 0, -1)
        self.assertEqual((one.start, one.turns, other.start, other.turns), (5, TURNS, -2, TURNS[1:3]))
