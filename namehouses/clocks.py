"""Clocks that run, stand, jump on or step back, and how far two of them are apart."""

from namehouses.errors import NoClock, NoTime
from namehouses.shapes import is_whole

# The places in a turn, a tuple (time, reading, runs).
TIME = 0
READING = 1
RUNS = 2


def is_turn(thing):
    if not isinstance(thing, tuple) or len(thing) != 3:
        return False
    return is_whole(thing[TIME]) and is_whole(thing[READING]) and isinstance(thing[RUNS], bool)


def are_turns(thing):
    if not isinstance(thing, list) or not all([is_turn(turn) for turn in thing]):
        return False
    return all([thing[place - 1][TIME] < thing[place][TIME] for place in range(1, len(thing))])


class Clock:
    def __init__(self, start, turns):
        if not is_whole(start) or not are_turns(turns):
            raise NoClock("a clock has a whole number and a list of turns whose times rise")
        self.start = start
        self.turns = list(turns)

    def reading(self, time):
        if not is_whole(time):
            raise NoTime("a time is a whole number")
        for turn in reversed(self.turns):
            if turn[TIME] <= time:
                return turn[READING] + (time - turn[TIME] if turn[RUNS] else 0)
        return self.start + time


def turn_times(clock, begin, end):
    return [turn[TIME] for turn in clock.turns if begin < turn[TIME] <= end]


def edges(one, other, begin, end):
    """The first and the last times of the stretches in which neither clock turns."""
    turned = turn_times(one, begin, end) + turn_times(other, begin, end)
    return [begin, end] + turned + [time - 1 for time in turned]


def apart(one, other, begin, end):
    if not (is_whole(begin) and is_whole(end)) or end < begin:
        raise NoTime("times are whole numbers, the second not below the first")
    # Between two turns no clock falls: from a time on, the other one reads least at that time or at a later turn.
    lows = [(other.reading(time), time) for time in turn_times(other, begin, end)]
    found = []
    # As the first time goes on between two turns, the distance shrinks or stays at first, and then stays or grows:
    # so it is greatest at an edge, and where it is so between the edges, too, it is so at the one ahead.
    for time in edges(one, other, begin, end):
        low = min([(other.reading(time), time)] + [later for later in lows if later[1] > time])
        found.append((low[0] - one.reading(time), time, low[1]))
    # Each distance stands here with its sign turned: the least of these is the greatest, with the least times.
    best = min(found)
    return (-best[0], best[1], best[2])
